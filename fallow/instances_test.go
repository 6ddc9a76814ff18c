package fallow

import (
	"math"
	"slices"
	"strconv"
	"strings"
	"testing"

	"fallow/api"
	"fallow/when"
)

const lastTime = 7258118399 // 21991231T235959Z

// at reads a time, or a day, at which it begins.
func at(t *testing.T, text string) int {
	t.Helper()
	if len(text) == len("YYYYMMDD") {
		text += "T000000Z"
	}
	time, errno := when.Parse(text)
	if errno != api.OK {
		t.Fatalf("P3: Parse(%q): %d", text, errno)
	}
	return time
}

// ruled is an event of an hour with this start and rule.
func ruled(start string, rule string, lines ...string) string {
	return event(append([]string{uid, "DTSTART:" + start, long, "RRULE:" + rule}, lines...)...)
}

// daysOf writes the days on which spans of an hour begin; all of them begin at this time of day.
func daysOf(t *testing.T, spans []api.Span, clock string) string {
	t.Helper()
	var texts []string
	for _, span := range spans {
		text, errno := when.Print(span.Begin)
		if errno != api.OK || text[8:] != clock || span.End != span.Begin+3600 {
			t.Errorf("P5: an instance from %d (%s) to %d, want one of an hour at %s", span.Begin, text, span.End, clock)
			continue
		}
		texts = append(texts, text[:8])
	}
	return strings.Join(texts, " ")
}

// hasDays asks for the instances from the beginning of 1970 on.
func hasDays(t *testing.T, start string, rule string, to string, want string) {
	t.Helper()
	spans, errno := Instances(ruled(start, rule), 0, at(t, to))
	if got := daysOf(t, spans, start[8:]); got != want || errno != api.OK {
		t.Errorf("P5: %s from %s to %s: %s (%d), want %s", rule, start, to, got, errno, want)
	}
}

type ruleCase struct {
	start, rule, to string
	want            string
}

func (c ruleCase) test(t *testing.T) {
	t.Helper()
	hasDays(t, c.start, c.rule, c.to, c.want)
}

func TestDailyRules(t *testing.T) {
	for _, c := range []ruleCase{
		{"20240115T083000Z", "FREQ=DAILY", "20240119", "20240115 20240116 20240117 20240118"},
		{"20240227T235959Z", "FREQ=DAILY", "20240303", "20240227 20240228 20240229 20240301 20240302"},
		{"20240115T083000Z", "FREQ=DAILY;INTERVAL=100", "20250301", "20240115 20240424 20240802 20241110 20250218"},
		{"20240115T083000Z", "FREQ=DAILY;INTERVAL=10;BYMONTH=3,5", "20250315", "20240305 20240315 20240325 20240504 20240514 20240524 20250310"},
		{"20240115T083000Z", "FREQ=DAILY;BYMONTHDAY=1,-1,30,-30", "20240402", "20240130 20240131 20240201 20240229 20240301 20240302 20240330 20240331 20240401"},
		{"20240115T083000Z", "FREQ=DAILY;BYDAY=SA,MO", "20240130", "20240115 20240120 20240122 20240127 20240129"},
		{"20240115T083000Z", "FREQ=DAILY;INTERVAL=2;BYDAY=MO,TU", "20240215", "20240115 20240123 20240129 20240206 20240212"},
		{"20240115T083000Z", "FREQ=DAILY;BYMONTH=9,12;BYMONTHDAY=13;BYDAY=FR", "20300101", "20240913 20241213"},
		{"20240115T083000Z", "FREQ=DAILY;BYDAY=WE;BYSETPOS=1", "20240201", "20240117 20240124 20240131"},
		{"20240115T083000Z", "FREQ=DAILY;BYDAY=WE;BYSETPOS=-1", "20240201", "20240117 20240124 20240131"},
		{"20240115T083000Z", "FREQ=DAILY;BYDAY=WE;BYSETPOS=2,-2", "20240301", ""},
		{"20240115T083000Z", "FREQ=DAILY;BYMONTH=2,2;BYSETPOS=1,-1", "20240204", "20240201 20240202 20240203"},
	} {
		c.test(t)
	}
}

func TestWeeklyRules(t *testing.T) {
	for _, c := range []ruleCase{
		{"20240117T083000Z", "FREQ=WEEKLY", "20240210", "20240117 20240124 20240131 20240207"},
		{"20240117T083000Z", "FREQ=WEEKLY;INTERVAL=3", "20240401", "20240117 20240207 20240228 20240320"},
		{"20240117T083000Z", "FREQ=WEEKLY;INTERVAL=100", "20280101", "20240117 20251217 20271117"},
		{"20240117T083000Z", "FREQ=WEEKLY;BYMONTH=2,4", "20240420", "20240207 20240214 20240221 20240228 20240403 20240410 20240417"},
		{"20240117T083000Z", "FREQ=WEEKLY;INTERVAL=2;BYMONTH=2,3", "20240420", "20240214 20240228 20240313 20240327"},
		{"20240117T083000Z", "FREQ=WEEKLY;BYDAY=MO,WE,SU", "20240201", "20240117 20240121 20240122 20240124 20240128 20240129 20240131"},
		{"20240117T083000Z", "FREQ=WEEKLY;INTERVAL=2;BYDAY=FR,TU", "20240225", "20240119 20240130 20240202 20240213 20240216"},
		{"20240117T083000Z", "FREQ=WEEKLY;BYMONTH=3;BYDAY=SA,SU", "20240320", "20240302 20240303 20240309 20240310 20240316 20240317"},
		// The Tuesday of the start's week is in its choice, though it lies ahead of the start.
		{"20240117T083000Z", "FREQ=WEEKLY;BYDAY=TU,WE,FR;BYSETPOS=1", "20240215", "20240123 20240130 20240206 20240213"},
		{"20240117T083000Z", "FREQ=WEEKLY;BYDAY=TU,WE,FR;BYSETPOS=2,-1", "20240202", "20240117 20240119 20240124 20240126 20240131"},
		{"20240117T083000Z", "FREQ=WEEKLY;BYDAY=TU,WE,FR;BYSETPOS=4,-4", "20240401", ""},
		{"20240117T083000Z", "FREQ=WEEKLY;BYMONTH=3;BYDAY=MO,TH,FR;BYSETPOS=1", "20240330", "20240301 20240304 20240311 20240318 20240325"},
	} {
		c.test(t)
	}
}

func TestMonthlyRules(t *testing.T) {
	for _, c := range []ruleCase{
		{"20240131T083000Z", "FREQ=MONTHLY", "20240901", "20240131 20240331 20240531 20240731 20240831"},
		{"20240130T083000Z", "FREQ=MONTHLY;INTERVAL=13", "20290101", "20240130 20260330 20270430 20280530"},
		{"20240115T083000Z", "FREQ=MONTHLY;INTERVAL=100", "20410101", "20240115 20320515 20400915"},
		{"20240131T083000Z", "FREQ=MONTHLY;BYMONTH=4,5,2,1", "20260101", "20240131 20240531 20250131 20250531"},
		{"20240131T083000Z", "FREQ=MONTHLY;INTERVAL=2;BYMONTH=4,5,1", "20260101", "20240131 20240531 20250131 20250531"},
		{"20240131T083000Z", "FREQ=MONTHLY;BYMONTHDAY=29,-3,-31", "20240401", "20240227 20240229 20240301 20240329"},
		{"20240131T083000Z", "FREQ=MONTHLY;BYMONTH=2;BYMONTHDAY=29,-28", "20290101", "20240202 20240229 20250201 20260201 20270201 20280202 20280229"},
		{"20240131T083000Z", "FREQ=MONTHLY;BYDAY=MO", "20240301", "20240205 20240212 20240219 20240226"},
		{"20240115T083000Z", "FREQ=MONTHLY;BYDAY=3MO", "20240501", "20240115 20240219 20240318 20240415"},
		{"20240115T083000Z", "FREQ=MONTHLY;BYDAY=5MO", "20241231", "20240129 20240429 20240729 20240930 20241230"},
		{"20240115T083000Z", "FREQ=MONTHLY;BYDAY=-1MO,1TU", "20240402", "20240129 20240206 20240226 20240305 20240325"},
		{"20240115T083000Z", "FREQ=MONTHLY;BYDAY=-5TH,-4SU", "20240701", "20240201 20240204 20240310 20240407 20240502 20240505 20240609"},
		{"20240115T083000Z", "FREQ=MONTHLY;BYDAY=6MO,-6MO,53TU,-53TU", "20300101", ""},
		{"20240115T083000Z", "FREQ=MONTHLY;BYDAY=2WE,FR", "20240301", "20240119 20240126 20240202 20240209 20240214 20240216 20240223"},
		{"20240115T083000Z", "FREQ=MONTHLY;INTERVAL=5;BYMONTH=6,11;BYDAY=-1FR", "20300101", "20240628 20241129 20290629 20291130"},
		{"20240115T083000Z", "FREQ=MONTHLY;BYMONTHDAY=1,2,3,4,5,6,7;BYDAY=SA", "20240601", "20240203 20240302 20240406 20240504"},
		{"20240115T083000Z", "FREQ=MONTHLY;BYMONTHDAY=30,31,1;BYSETPOS=2", "20240801", "20240130 20240330 20240430 20240530 20240630 20240730"},
		{"20240115T083000Z", "FREQ=MONTHLY;BYMONTHDAY=30,31,1;BYSETPOS=-1", "20240601", "20240131 20240201 20240331 20240430 20240531"},
		{"20240115T083000Z", "FREQ=MONTHLY;BYDAY=SA,SU;BYSETPOS=1,-1", "20240401", "20240128 20240203 20240225 20240302 20240331"},
		{"20240115T083000Z", "FREQ=MONTHLY;BYDAY=1SA,-1SU,2SU;BYSETPOS=-2", "20240501", "20240211 20240310 20240414"},
		{"20240115T083000Z", "FREQ=MONTHLY;BYMONTH=3,8;BYDAY=MO,TU,WE,TH,FR;BYSETPOS=23,-23", "20280101", "20270301 20270331"},
		{"20231231T083000Z", "FREQ=MONTHLY;INTERVAL=2", "20241101", "20231231 20240831 20241031"},
	} {
		c.test(t)
	}
}

func TestYearlyRules(t *testing.T) {
	for _, c := range []ruleCase{
		{"20240229T083000Z", "FREQ=YEARLY", "20330101", "20240229 20280229 20320229"},
		{"20240229T083000Z", "FREQ=YEARLY;INTERVAL=3", "20500101", "20240229 20360229 20480229"},
		{"20240229T083000Z", "FREQ=YEARLY;INTERVAL=100", "21990101", "20240229 21240229"},
		{"20960229T083000Z", "FREQ=YEARLY", "21060101", "20960229 21040229"},
		{"20240131T083000Z", "FREQ=YEARLY;BYMONTH=2,3,4,5", "20260101", "20240331 20240531 20250331 20250531"},
		{"20240115T083000Z", "FREQ=YEARLY;INTERVAL=2;BYMONTH=12,1", "20290101", "20240115 20241215 20260115 20261215 20280115 20281215"},
		{"20240115T083000Z", "FREQ=YEARLY;BYMONTHDAY=-31,30", "20240801", "20240130 20240301 20240330 20240430 20240501 20240530 20240630 20240701 20240730"},
		{"20240115T083000Z", "FREQ=YEARLY;BYMONTH=2;BYMONTHDAY=-1,-29", "20290101", "20240201 20240229 20250228 20260228 20270228 20280201 20280229"},
		{"20240115T083000Z", "FREQ=YEARLY;BYDAY=FR;BYMONTHDAY=13", "20260101", "20240913 20241213 20250613"},
		{"20240115T083000Z", "FREQ=YEARLY;INTERVAL=2;BYDAY=MO,TU;BYMONTH=2", "20260210", "20240205 20240206 20240212 20240213 20240219 20240220 20240226 20240227 20260202 20260203 20260209"},
		{"20240115T083000Z", "FREQ=YEARLY;BYDAY=TU", "20240215", "20240116 20240123 20240130 20240206 20240213"},
		{"20240115T083000Z", "FREQ=YEARLY;BYDAY=1TU,20MO,-1TU,52TU", "20260201", "20240513 20241224 20241231 20250107 20250519 20251230 20260106"},
		{"20240115T083000Z", "FREQ=YEARLY;BYDAY=53SU,-53SU,53MO", "20350101", "20241230 20280102 20281231 20291231 20340101 20341231"},
		{"20240115T083000Z", "FREQ=YEARLY;BYDAY=-53TU,-52TU", "20290101", "20250107 20260106 20270105 20280104"},
		{"20240115T083000Z", "FREQ=YEARLY;BYMONTH=2;BYDAY=5TH,-5TH,1SA,-1SA", "20250401", "20240201 20240203 20240224 20240229 20250201 20250222"},
		{"20240115T083000Z", "FREQ=YEARLY;BYMONTH=2,12;BYDAY=6MO,-6MO,52TU,-53TU", "20350101", ""},
		{"20240115T083000Z", "FREQ=YEARLY;BYMONTHDAY=1;BYSETPOS=5,-1", "20270101", "20240501 20241201 20250501 20251201 20260501 20261201"},
		{"20240115T083000Z", "FREQ=YEARLY;BYMONTH=2,1;BYSETPOS=-1", "20270101", "20240215 20250215 20260215"},
		{"20240115T083000Z", "FREQ=YEARLY;BYDAY=MO,TU,WE,TH,FR,SA,SU;BYSETPOS=366,60,-366", "20290101", "20240229 20241231 20250301 20260301 20270301 20280101 20280229 20281231"},
		{"20240115T083000Z", "FREQ=YEARLY;INTERVAL=2;BYMONTH=6;BYDAY=1MO,-1MO;BYSETPOS=2", "20290101", "20240624 20260629 20280626"},
	} {
		c.test(t)
	}
}

func TestDocumentsExamplesOfRules(t *testing.T) {
	for _, c := range []ruleCase{
		{"20240131T120000Z", "FREQ=MONTHLY;BYMONTHDAY=-1", "20240501", "20240131 20240229 20240331 20240430"},
		{"20240131T120000Z", "FREQ=MONTHLY;BYDAY=-1FR", "20240401", "20240223 20240329"},
		{"20240131T120000Z", "FREQ=MONTHLY;BYDAY=MO,TU,WE,TH,FR;BYSETPOS=-1", "20240401", "20240131 20240229 20240329"},
		{"20240131T120000Z", "FREQ=YEARLY;BYDAY=1MO", "20260101", "20250106"},
		{"20240131T120000Z", "FREQ=YEARLY;BYMONTH=3;BYDAY=-1SU", "20250101", "20240331"},
		{"20240102T000000Z", "FREQ=WEEKLY;INTERVAL=2;BYDAY=SU", "20240201", "20240107 20240121"},
		{"20240102T000000Z", "FREQ=WEEKLY;INTERVAL=2;BYDAY=SU;WKST=SU", "20240201", "20240114 20240128"},
	} {
		c.test(t)
	}
}

// The start is a Thursday: where its week ends, and where the next one in turn begins, hangs on WKST.
func TestWeeksBeginWithWKST(t *testing.T) {
	for weekStart, want := range map[string]string{
		"MO": "20240104 20240105 20240106 20240107 20240115",
		"TU": "20240104 20240105 20240106 20240107 20240108",
		"WE": "20240104 20240105 20240106 20240107 20240108 20240109",
		"TH": "20240104 20240105 20240106 20240107 20240108 20240109 20240110",
		"FR": "20240104 20240112 20240113 20240114 20240115",
		"SA": "20240104 20240105 20240113 20240114 20240115",
		"SU": "20240104 20240105 20240106 20240114 20240115",
	} {
		hasDays(t, "20240104T120000Z", "FREQ=WEEKLY;INTERVAL=2;BYDAY=MO,TU,WE,TH,FR,SA,SU;WKST="+weekStart, "20240116", want)
	}
	// Other periods know no WKST.
	for _, rule := range []string{"FREQ=DAILY;INTERVAL=7", "FREQ=WEEKLY", "FREQ=MONTHLY;BYDAY=TH", "FREQ=YEARLY;BYDAY=TH"} {
		for _, weekStart := range []string{"MO", "TH", "FR", "SU"} {
			hasDays(t, "20240104T120000Z", rule+";WKST="+weekStart, "20240202", "20240104 20240111 20240118 20240125 20240201")
		}
	}
}

func TestWeeksOverTheEdges(t *testing.T) {
	for _, c := range []ruleCase{
		// 1 January 1970 is a Thursday: the days of its week ahead of it count for places and for months.
		{"19700101T000000Z", "FREQ=WEEKLY;BYDAY=MO,TU,TH;BYSETPOS=1", "19700113", "19700105 19700112"},
		{"19700101T000000Z", "FREQ=WEEKLY;BYDAY=MO,TU,TH;BYSETPOS=3", "19700113", "19700101 19700108"},
		{"19700101T000000Z", "FREQ=WEEKLY;BYDAY=MO,TU,TH;BYSETPOS=-3", "19700113", "19700105 19700112"},
		{"19700101T000000Z", "FREQ=WEEKLY;BYMONTH=1;BYDAY=MO,TU,TH;BYSETPOS=1", "19700113", "19700101 19700105 19700112"},
		{"19700101T000000Z", "FREQ=WEEKLY;BYMONTH=12;BYDAY=MO,TU,TH", "19701204", "19701201 19701203"},
		{"19700101T000000Z", "FREQ=WEEKLY;INTERVAL=2;BYDAY=WE,TH;WKST=TH", "19700122", "19700101 19700107 19700115 19700121"},
		{"19700101T000000Z", "FREQ=WEEKLY;INTERVAL=2;BYDAY=WE,TH;WKST=FR", "19700122", "19700101 19700114 19700115"},
		{"19700104T000000Z", "FREQ=WEEKLY;BYDAY=SU,MO;BYSETPOS=-1;WKST=FR", "19700113", "19700105 19700112"},
		// 31 December 2199 is a Tuesday: the days of its week behind it count too.
		{"21991225T000000Z", "FREQ=WEEKLY;BYDAY=TU,WE;BYSETPOS=-1", "21991231T235959Z", "21991225"},
		{"21991225T000000Z", "FREQ=WEEKLY;BYDAY=TU,WE;BYSETPOS=1", "21991231T235959Z", "21991231"},
		{"21991225T000000Z", "FREQ=WEEKLY;BYDAY=TU,WE;BYSETPOS=-2", "21991231T235959Z", "21991231"},
		{"21991225T000000Z", "FREQ=WEEKLY;BYMONTH=12;BYDAY=TU,WE;BYSETPOS=-1", "21991231T235959Z", "21991225 21991231"},
		{"21991231T000000Z", "FREQ=WEEKLY;BYDAY=MO,WE", "21991231T235959Z", ""},
		{"21991231T000000Z", "FREQ=WEEKLY;BYMONTH=1", "21991231T235959Z", ""},
	} {
		c.test(t)
	}
}

func TestRulesAtTheLastYear(t *testing.T) {
	for _, c := range []ruleCase{
		{"21991230T000000Z", "FREQ=DAILY", "21991231T235959Z", "21991230 21991231"},
		{"21991230T235958Z", "FREQ=DAILY;COUNT=1000", "21991231T235959Z", "21991230 21991231"},
		{"21991218T000000Z", "FREQ=WEEKLY;INTERVAL=100", "21991231T235959Z", "21991218"},
		{"21991031T000000Z", "FREQ=MONTHLY", "21991231T235959Z", "21991031 21991231"},
		{"21971231T000000Z", "FREQ=YEARLY", "21991231T235959Z", "21971231 21981231 21991231"},
		{"21971231T000000Z", "FREQ=YEARLY;INTERVAL=100", "21991231T235959Z", "21971231"},
		{"21990101T000000Z", "FREQ=YEARLY;BYDAY=-1TU,-1WE", "21991231T235959Z", "21991225 21991231"},
	} {
		c.test(t)
	}
}

func TestRulesWithoutADay(t *testing.T) {
	for _, rule := range []string{
		"FREQ=DAILY;BYMONTH=2;BYMONTHDAY=30,31,-30,-31", "FREQ=MONTHLY;BYMONTH=2,4,6,9,11;BYMONTHDAY=31", "FREQ=YEARLY;BYMONTH=4;BYMONTHDAY=-31",
		"FREQ=MONTHLY;BYDAY=6MO,-6TU", "FREQ=YEARLY;BYMONTH=5;BYDAY=6WE", "FREQ=MONTHLY;INTERVAL=12;BYMONTH=2",
		"FREQ=DAILY;BYDAY=MO;BYSETPOS=2", "FREQ=WEEKLY;BYDAY=MO;BYSETPOS=-2", "FREQ=MONTHLY;BYDAY=MO;BYSETPOS=6", "FREQ=YEARLY;BYMONTHDAY=1;BYSETPOS=-13",
		"FREQ=YEARLY;INTERVAL=100;BYMONTH=2;BYMONTHDAY=29", "FREQ=DAILY;INTERVAL=7;BYDAY=MO", "FREQ=DAILY;COUNT=1000;BYMONTHDAY=31;BYMONTH=6",
		"FREQ=DAILY;UNTIL=19700101T000000Z", "FREQ=DAILY;UNTIL=20230330T115959Z",
	} {
		hasDays(t, "20230330T120000Z", rule, "21991231T235959Z", "")
	}
	hasDays(t, "20240131T120000Z", "FREQ=YEARLY;BYMONTH=2,4", "21991231T235959Z", "")
}

func TestCount(t *testing.T) {
	for _, c := range []ruleCase{
		{"20240102T000000Z", "FREQ=DAILY;COUNT=1", "21990101", "20240102"},
		{"20240102T000000Z", "FREQ=DAILY;COUNT=3", "21990101", "20240102 20240103 20240104"},
		{"20240102T000000Z", "FREQ=DAILY;COUNT=3", "20240104", "20240102 20240103"},
		// Days ahead of the start and days that do not fit are not counted.
		{"20240131T000000Z", "FREQ=MONTHLY;COUNT=3;BYMONTHDAY=1,30,31", "21990101", "20240131 20240201 20240301"},
		{"20240102T000000Z", "FREQ=WEEKLY;COUNT=2;BYDAY=MO", "21990101", "20240108 20240115"},
		{"20240102T000000Z", "FREQ=YEARLY;COUNT=4;BYMONTH=2;BYMONTHDAY=29", "21990101", "20240229 20280229 20320229 20360229"},
		{"20240102T000000Z", "FREQ=WEEKLY;COUNT=5;BYDAY=MO,TU,WE;BYSETPOS=1,-1", "21990101", "20240103 20240108 20240110 20240115 20240117"},
	} {
		c.test(t)
	}
	spans, errno := Instances(ruled("20240102T000000Z", "FREQ=DAILY;COUNT=1000"), 0, lastTime)
	if len(spans) != api.MaxCount || errno != api.OK || spans[api.MaxCount-1].Begin != at(t, "20240102")+999*86400 {
		t.Errorf("P5: COUNT=1000: %d instances, %d", len(spans), errno)
	}
}

func TestUntil(t *testing.T) {
	for _, c := range []ruleCase{
		{"20240102T120000Z", "FREQ=DAILY;UNTIL=20240104T120000Z", "21990101", "20240102 20240103 20240104"},
		{"20240102T120000Z", "FREQ=DAILY;UNTIL=20240104T115959Z", "21990101", "20240102 20240103"},
		{"20240102T120000Z", "FREQ=DAILY;UNTIL=20240104T120001Z", "21990101", "20240102 20240103 20240104"},
		{"20240102T120000Z", "FREQ=DAILY;UNTIL=20240104T000000Z", "21990101", "20240102 20240103"},
		{"20240102T120000Z", "FREQ=DAILY;UNTIL=20240102T120000Z", "21990101", "20240102"},
		{"20240102T120000Z", "FREQ=DAILY;UNTIL=20240102T115959Z", "21990101", ""},
		{"20240102T120000Z", "FREQ=DAILY;UNTIL=20240110T000000Z", "20240104", "20240102 20240103"},
		{"20240102T120000Z", "FREQ=DAILY;UNTIL=21991231T235959Z", "20240104", "20240102 20240103"},
		{"20240102T120000Z", "FREQ=WEEKLY;UNTIL=20240112T120000Z;BYDAY=MO,FR", "21990101", "20240105 20240108 20240112"},
		{"20240102T120000Z", "FREQ=WEEKLY;UNTIL=20240112T115959Z;BYDAY=MO,FR", "21990101", "20240105 20240108"},
		{"20240102T120000Z", "FREQ=MONTHLY;UNTIL=20240302T120000Z", "21990101", "20240102 20240202 20240302"},
		{"20240102T120000Z", "FREQ=YEARLY;UNTIL=20260102T115959Z", "21990101", "20240102 20250102"},
		// UNTIL cuts the choice, it does not change it.
		{"20240102T120000Z", "FREQ=MONTHLY;UNTIL=20240229T115959Z;BYDAY=MO,TU,WE,TH,FR;BYSETPOS=-1", "21990101", "20240131"},
	} {
		c.test(t)
	}
}

// beginsOf writes the begins of all instances, whole hours, of an event.
func beginsOf(t *testing.T, text string, from string, to string) string {
	t.Helper()
	spans, errno := Instances(text, at(t, from), at(t, to))
	if errno != api.OK {
		t.Errorf("P5: Instances(%q, %s, %s): %d", text, from, to, errno)
	}
	var texts []string
	for _, span := range spans {
		begin, _ := when.Print(span.Begin)
		texts = append(texts, strings.TrimSuffix(begin, "0000Z"))
	}
	return strings.Join(texts, " ")
}

func TestExtraAndExceptedTimes(t *testing.T) {
	const start = "DTSTART:20240102T100000Z"
	const daily = "RRULE:FREQ=DAILY;COUNT=3"
	for _, c := range []struct {
		lines []string
		want  string
	}{
		{nil, "20240102T10"},
		{[]string{"EXDATE:20240102T100000Z"}, ""},
		{[]string{"EXDATE:20240102T110000Z,20240101T100000Z"}, "20240102T10"},
		{[]string{"RDATE:20240102T100000Z"}, "20240102T10"},
		{[]string{"RDATE:20240102T090000Z,20240101T100000Z,19700101T000000Z"}, "20240102T10"},
		{[]string{"RDATE:20240105T120000Z,20240102T110000Z,20240105T120000Z"}, "20240102T10 20240102T11 20240105T12"},
		{[]string{"RDATE:20240105T120000Z,20240102T110000Z", "EXDATE:20240102T100000Z,20240105T120000Z"}, "20240102T11"},
		{[]string{daily}, "20240102T10 20240103T10 20240104T10"},
		// What is taken out is counted.
		{[]string{daily, "EXDATE:20240103T100000Z"}, "20240102T10 20240104T10"},
		{[]string{daily, "EXDATE:20240102T100000Z,20240103T100000Z,20240104T100000Z"}, ""},
		// The day alone takes nothing out; nor does what is not there.
		{[]string{daily, "EXDATE:20240102T110000Z,20240103T100001Z,20240104T095959Z,20240105T100000Z,20240101T100000Z"}, "20240102T10 20240103T10 20240104T10"},
		{[]string{daily, "RDATE:20240103T100000Z,20240103T090000Z,20240103T110000Z"}, "20240102T10 20240103T09 20240103T10 20240103T11 20240104T10"},
		{[]string{daily, "RDATE:20240104T100000Z,20240104T110000Z,20240109T100000Z"}, "20240102T10 20240103T10 20240104T10 20240104T11 20240109T10"},
		{[]string{daily, "RDATE:20240103T100000Z,20240109T100000Z,20240109T110000Z", "EXDATE:20240103T100000Z,20240109T100000Z"}, "20240102T10 20240104T10 20240109T11"},
		{[]string{daily, "RDATE:20240102T090000Z,20240101T100000Z,20240102T110000Z"}, "20240102T10 20240102T11 20240103T10 20240104T10"},
		// A start that is no time of the rule is an instance only by RDATE.
		{[]string{"RRULE:FREQ=WEEKLY;COUNT=1;BYDAY=MO"}, "20240108T10"},
		{[]string{"RRULE:FREQ=WEEKLY;COUNT=1;BYDAY=MO", "RDATE:20240102T100000Z"}, "20240102T10 20240108T10"},
		{[]string{"RRULE:FREQ=DAILY;UNTIL=20240101T000000Z", "RDATE:20240103T080000Z,20240101T000000Z"}, "20240103T08"},
		{[]string{"RRULE:FREQ=YEARLY;BYMONTH=2;BYMONTHDAY=30"}, ""},
		{[]string{"RRULE:FREQ=YEARLY;BYMONTH=2;BYMONTHDAY=30", "RDATE:20240301T100000Z"}, "20240301T10"},
	} {
		text := event(append([]string{uid, start, long}, c.lines...)...)
		if got := beginsOf(t, text, "19700101", "20250101"); got != c.want {
			t.Errorf("P5: Instances(%q): %s, want %s", text, got, c.want)
		}
	}
}

func TestWindows(t *testing.T) {
	single := event(uid, "DTSTART:20240102T100000Z", long)
	daily := ruled("20240102T100000Z", "FREQ=DAILY")
	lasting := event(uid, "DTSTART:20240102T100000Z", "DURATION:P3D", "RRULE:FREQ=DAILY")
	extra := event(uid, "DTSTART:20240102T100000Z", long, "RDATE:20240103T120000Z")
	for _, c := range []struct {
		text, from, to, want string
	}{
		{single, "20240101", "20240103", "20240102T10"},
		{single, "20240102T100000Z", "20240102T110000Z", "20240102T10"},
		{single, "20240102T103000Z", "20240102T103001Z", "20240102T10"},
		{single, "20240102T105959Z", "20240103", "20240102T10"},
		{single, "20240102T110000Z", "20240103", ""},
		{single, "20240101", "20240102T100000Z", ""},
		{single, "20240101", "20240102T100001Z", "20240102T10"},
		{extra, "20240102T110000Z", "20240103T120000Z", ""},
		{extra, "20240102T105959Z", "20240103T120001Z", "20240102T10 20240103T12"},
		{extra, "20240103T125959Z", "20240104", "20240103T12"},
		{extra, "20240103T130000Z", "20240104", ""},
		{daily, "20240105T103000Z", "20240107T100000Z", "20240105T10 20240106T10"},
		{daily, "20240105T110000Z", "20240107T100001Z", "20240106T10 20240107T10"},
		{daily, "20240105T110000Z", "20240106T100000Z", ""},
		{lasting, "20240110T100000Z", "20240110T100001Z", "20240108T10 20240109T10 20240110T10"},
		{lasting, "20240110T095959Z", "20240110T100000Z", "20240107T10 20240108T10 20240109T10"},
	} {
		if got := beginsOf(t, c.text, c.from, c.to); got != c.want {
			t.Errorf("P5: Instances(%q, %s, %s): %s, want %s", c.text, c.from, c.to, got, c.want)
		}
	}
}

func answers(t *testing.T, text string, from int, to int, want []api.Span) {
	t.Helper()
	if got, errno := Instances(text, from, to); errno != api.OK || !slices.Equal(got, want) {
		t.Errorf("P5: Instances(%q, %d, %d) = %v, %d, want %v", text, from, to, got, errno, want)
	}
}

func TestWindowsAtTheEdges(t *testing.T) {
	first := event(uid, "DTSTART:19700101T000000Z", "DURATION:PT1S")
	answers(t, first, 0, 1, []api.Span{{Begin: 0, End: 1}})
	answers(t, first, 0, lastTime, []api.Span{{Begin: 0, End: 1}})
	answers(t, first, 1, 2, nil)
	// An end may lie behind LastYear.
	last := event(uid, "DTSTART:21991231T235958Z", "DURATION:P31D")
	answers(t, last, 0, lastTime, []api.Span{{Begin: lastTime - 1, End: lastTime - 1 + api.MaxLength}})
	answers(t, last, lastTime-1, lastTime, []api.Span{{Begin: lastTime - 1, End: lastTime - 1 + api.MaxLength}})
	answers(t, last, 0, lastTime-1, nil)
	answers(t, event(uid, "DTSTART:21991231T235959Z", "DURATION:P31D"), 0, lastTime, nil)
	// The others of a rule that overlap one another, each as it is.
	answers(t, event(uid, "DTSTART:21991230T000000Z", "DURATION:P3D", "RRULE:FREQ=DAILY"), lastTime-1, lastTime,
		[]api.Span{{Begin: lastTime - 172799, End: lastTime + 86401}, {Begin: lastTime - 86399, End: lastTime + 172801}})
}

// TRANSP and STATUS say nothing of an event's instances.
func TestInstancesOfEveryStatus(t *testing.T) {
	for _, line := range []string{"TRANSP:TRANSPARENT", "TRANSP:OPAQUE", "STATUS:TENTATIVE", "STATUS:CANCELLED", "STATUS:CONFIRMED"} {
		answers(t, event(uid, "DTSTART:19700101T000010Z", "DTEND:19700101T000020Z", line), 0, 11, []api.Span{{Begin: 10, End: 20}})
	}
}

func TestMaxSpans(t *testing.T) {
	const first = "20240101T000000Z"
	start := at(t, first)
	behind := start + api.MaxSpans*86400 // MaxSpans days are ahead of it
	for _, c := range []struct {
		text     string
		from, to int
		want     api.Errno
		count    int
	}{
		{ruled(first, "FREQ=DAILY"), 0, behind, api.OK, api.MaxSpans},
		{ruled(first, "FREQ=DAILY"), 0, behind + 1, api.ErrFull, 0},
		{ruled(first, "FREQ=DAILY"), 0, lastTime, api.ErrFull, 0},
		// Those that end ahead of the window are counted too.
		{ruled(first, "FREQ=DAILY"), behind - 1, behind, api.OK, 0},
		{ruled(first, "FREQ=DAILY"), behind, behind + 1, api.ErrFull, 0},
		{ruled(first, "FREQ=DAILY"), lastTime - 1, lastTime, api.ErrFull, 0},
		// Those that are taken out are not.
		{ruled(first, "FREQ=DAILY", "EXDATE:20240101T000000Z"), 0, behind, api.OK, api.MaxSpans - 1},
		{ruled(first, "FREQ=DAILY", "EXDATE:20240101T000000Z"), 0, behind + 1, api.OK, api.MaxSpans},
		{ruled(first, "FREQ=DAILY", "EXDATE:20240101T000000Z"), 0, behind + 86401, api.ErrFull, 0},
		{ruled(first, "FREQ=DAILY", "EXDATE:20240101T000001Z"), 0, behind + 1, api.ErrFull, 0},
		{ruled(first, "FREQ=DAILY", "RDATE:20240101T000001Z"), 0, behind, api.ErrFull, 0},
		{ruled(first, "FREQ=DAILY", "RDATE:20240101T000001Z"), 0, behind - 86400, api.OK, api.MaxSpans},
		{ruled(first, "FREQ=DAILY", "RDATE:20240102T000000Z,20231231T000000Z"), 0, behind, api.OK, api.MaxSpans},
		{ruled(first, "FREQ=DAILY", "RDATE:21990101T000000Z"), 0, behind, api.OK, api.MaxSpans},
		{ruled(first, "FREQ=DAILY", "RDATE:20240101T000001Z", "EXDATE:20240101T000000Z"), 0, behind, api.OK, api.MaxSpans},
		{ruled(first, "FREQ=DAILY;UNTIL=20240101T000000Z", "RDATE:20240101T000001Z"), 0, lastTime, api.OK, 2},
		{ruled("19700101T000000Z", "FREQ=MONTHLY"), 0, lastTime, api.OK, 230 * 12},
	} {
		spans, errno := Instances(c.text, c.from, c.to)
		if errno != c.want || len(spans) != c.count {
			t.Errorf("P5: Instances(%q, %d, %d): %d instances, %d, want %d, %d", c.text, c.from, c.to, len(spans), errno, c.count, c.want)
		}
	}
	// The last one that counts may be RDATE's.
	last := ruled(first, "FREQ=DAILY;UNTIL="+printed(t, behind-1), "RDATE:"+printed(t, behind+5))
	answersErrno(t, last, 0, behind+5, api.OK)
	answersErrno(t, last, 0, behind+6, api.ErrFull)
}

func printed(t *testing.T, time int) string {
	t.Helper()
	text, errno := when.Print(time)
	if errno != api.OK {
		t.Fatalf("P3: Print(%d): %d", time, errno)
	}
	return text
}

func answersErrno(t *testing.T, text string, from int, to int, want api.Errno) {
	t.Helper()
	spans, errno := Instances(text, from, to)
	if errno != want || errno != api.OK && len(spans) > 0 {
		t.Errorf("P5: Instances(%q, %d, %d): %d instances, %d, want %d", text, from, to, len(spans), errno, want)
	}
}

func TestWrongWindows(t *testing.T) {
	full := ruled("19700101T000000Z", "FREQ=DAILY")
	for _, text := range []string{with(), full} {
		for _, window := range [][2]int{
			{5, 5}, {6, 5}, {0, 0}, {lastTime, lastTime}, {lastTime, 0},
			{-1, 5}, {-1, -1}, {-2, -1}, {math.MinInt, 5}, {math.MinInt, math.MaxInt},
			{5, lastTime + 1}, {lastTime, lastTime + 1}, {5, math.MaxInt}, {-1, lastTime + 1}, {lastTime + 1, lastTime + 2}, {math.MaxInt, math.MinInt},
		} {
			answersErrno(t, text, window[0], window[1], api.ErrWindow)
			// Check's errors are named ahead.
			answersErrno(t, "x", window[0], window[1], api.ErrText)
			answersErrno(t, event(uid, "DTSTART:x", long), window[0], window[1], api.ErrTime)
			answersErrno(t, with("RRULE:FREQ=x"), window[0], window[1], api.ErrRule)
		}
	}
	answersErrno(t, with(), lastTime-1, lastTime, api.OK)
	answersErrno(t, with(), 0, 1, api.OK)
	answersErrno(t, full, 0, lastTime, api.ErrFull)
	answersErrno(t, full, lastTime, lastTime, api.ErrWindow)
}

func TestInstancesRefusesWhatCheckRefuses(t *testing.T) {
	for _, text := range []string{
		"", "x", event(), event(uid, start), with("SUMMARY:x"), with("STATUS:x"), with(long), with(strings.Repeat("\r\n ", api.MaxText)),
		event(uid, "DTSTART:20230229T000000Z", long), event(uid, start, "DURATION:PT0S"), with("RDATE:x"), with("EXDATE:" + repeated("20240102T000000Z", api.MaxList+1)),
		with("RRULE:"), with("RRULE:FREQ=DAILY;BYDAY=1MO"), with("RRULE:FREQ=DAILY;COUNT=" + strconv.Itoa(api.MaxCount+1)),
	} {
		_, want := Check(text)
		if want == api.OK {
			t.Errorf("P4: Check(%q) is OK", text)
		}
		answersErrno(t, text, 0, lastTime, want)
	}
}

// A folded event has the instances of the one that is printed.
func TestInstancesOfFoldedEvents(t *testing.T) {
	text := ruled("20240102T000000Z", "FREQ=WEEKLY;COUNT=3;BYDAY=MO,TU", "EXDATE:20240108T000000Z")
	folded := strings.ReplaceAll(text, "20240", "20\r\n 240")
	want, _ := Instances(text, 0, lastTime)
	if len(want) != 2 {
		t.Errorf("P5: Instances(%q) = %v, want two", text, want)
	}
	answers(t, folded, 0, lastTime, want)
}

func TestInstancesAreNewMemory(t *testing.T) {
	text := ruled("20240102T000000Z", "FREQ=DAILY;COUNT=5")
	first, _ := Instances(text, 0, lastTime)
	kept := slices.Clone(first)
	for i := range first[:cap(first)] {
		first[:cap(first)][i] = api.Span{Begin: -1, End: -1}
	}
	answers(t, text, 0, lastTime, kept)
	second, _ := Instances(text, 0, lastTime)
	_, _ = Instances(ruled("20250102T000000Z", "FREQ=DAILY;COUNT=5"), 0, lastTime)
	if !slices.Equal(second, kept) {
		t.Errorf("P2: a list that was told has changed: %v, want %v", second, kept)
	}
}
