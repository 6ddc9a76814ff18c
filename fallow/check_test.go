package fallow

import (
	"slices"
	"strconv"
	"strings"
	"testing"

	"fallow/api"
)

const (
	uid   = "UID:a1"
	start = "DTSTART:20240102T000000Z"
	long  = "DURATION:PT3600S"
	ends  = "DTEND:20240102T010000Z"
)

func event(lines ...string) string {
	return "BEGIN:VEVENT\r\n" + strings.Join(append(lines, ""), "\r\n") + "END:VEVENT\r\n"
}

// with is an event that is right but perhaps for these lines.
func with(lines ...string) string {
	return event(append([]string{uid, start, long}, lines...)...)
}

func repeated(value string, times int) string {
	return strings.TrimSuffix(strings.Repeat(value+",", times), ",")
}

func printsAs(t *testing.T, text string, want string) {
	t.Helper()
	if got, errno := Check(text); got != want || errno != api.OK {
		t.Errorf("P4: Check(%q) = %q, %d, want %q", text, got, errno, want)
	}
}

func refused(t *testing.T, want api.Errno, text string) {
	t.Helper()
	if got, errno := Check(text); got != "" || errno != want {
		t.Errorf("P4: Check(%q) = %q, %d, want nothing and %d", text, got, errno, want)
	}
}

func accepted(t *testing.T, text string) {
	t.Helper()
	if got, errno := Check(text); got == "" || errno != api.OK {
		t.Errorf("P4: Check(%q) = %q, %d, want an event", text, got, errno)
	}
}

func TestPrinted(t *testing.T) {
	plain := event(uid, start, long)
	printsAs(t, plain, plain)
	printsAs(t, event(ends, start, uid), plain)
	printsAs(t, event("DURATION:PT60M", uid, start), plain)
	printsAs(t, with("TRANSP:OPAQUE", "STATUS:CONFIRMED"), plain)
	printsAs(t, event("STATUS:TENTATIVE", "TRANSP:TRANSPARENT", "RDATE:20240103T000000Z", "EXDATE:20240104T000000Z", "RRULE:FREQ=DAILY", "DURATION:P0DT1H", start, uid),
		event(uid, start, long, "RRULE:FREQ=DAILY", "EXDATE:20240104T000000Z", "RDATE:20240103T000000Z", "TRANSP:TRANSPARENT", "STATUS:TENTATIVE"))
	printsAs(t, with("STATUS:CANCELLED"), with("STATUS:CANCELLED"))
}

func TestPrintedListsOfTimes(t *testing.T) {
	const mixed = "20240105T000000Z,20240103T000001Z,20240103T000000Z,20240105T000000Z,19700101T000000Z,21991231T235959Z"
	const inOrder = "19700101T000000Z,20240103T000000Z,20240103T000001Z,20240105T000000Z,21991231T235959Z"
	printsAs(t, with("EXDATE:"+mixed), with("EXDATE:"+inOrder))
	printsAs(t, with("RDATE:"+mixed), with("RDATE:"+inOrder))
	printsAs(t, with("RDATE:"+repeated("20240105T000000Z", api.MaxList)), with("RDATE:20240105T000000Z"))
}

func TestPrintedRules(t *testing.T) {
	for rule, want := range map[string]string{
		"WKST=MO;BYDAY=TU,TH;FREQ=WEEKLY": "FREQ=WEEKLY;BYDAY=TU,TH",
		"INTERVAL=1;FREQ=DAILY":           "FREQ=DAILY",
		"INTERVAL=10;FREQ=DAILY":          "FREQ=DAILY;INTERVAL=10",
		"WKST=TU;FREQ=WEEKLY":             "FREQ=WEEKLY;WKST=TU",
		"COUNT=1;FREQ=DAILY":              "FREQ=DAILY;COUNT=1",
		"WKST=SU;BYSETPOS=2,-1,2;BYDAY=TU,MO,TU;BYMONTHDAY=31,-1,31;BYMONTH=12,1,12;COUNT=7;INTERVAL=2;FREQ=MONTHLY": "FREQ=MONTHLY;INTERVAL=2;COUNT=7;BYMONTH=12,1,12;BYMONTHDAY=31,-1,31;BYDAY=TU,MO,TU;BYSETPOS=2,-1,2;WKST=SU",
		"BYDAY=-1FR,2SU;UNTIL=20231231T000000Z;FREQ=YEARLY":                                                          "FREQ=YEARLY;UNTIL=20231231T000000Z;BYDAY=-1FR,2SU",
	} {
		printsAs(t, with("RRULE:"+rule), with("RRULE:"+want))
	}
}

func TestFoldedLines(t *testing.T) {
	plain := event(uid, start, long)
	printsAs(t, event("DTEND:202401\r\n 02T010000Z", start, uid), plain)
	for i := range len(plain) - 1 {
		folded := plain[:i] + "\r\n " + plain[i:]
		if plain[i] == '\n' {
			continue
		}
		printsAs(t, folded, plain)
		printsAs(t, plain[:i]+"\r\n \r\n "+plain[i:], plain)
	}
	refused(t, api.ErrText, event(uid, start, long+"\r\n", ""))
	refused(t, api.ErrTime, event(uid, start, "DURATION:PT\r\n  1H"))
	refused(t, api.ErrTime, event(uid, start, "DURATION:PT\n 1H"))
	refused(t, api.ErrText, event(uid, start, "DURATION:PT\r\n\t1H"))
	refused(t, api.ErrText, event(" "+uid, start, long))
	// Folds are taken out ahead of any look at the lines: also behind the last one.
	printsAs(t, plain+"\r\n ", plain)
	// What a fold leaves behind is no fold again.
	refused(t, api.ErrText, event(uid+"\r\r\n \n ", start, long))
	printsAs(t, event(uid+"\r\r\n \n"+start, long), plain)
}

// filled puts as many folds into the text as MaxText leaves room for.
func filled(text string) string {
	folds := strings.Repeat("\r\n ", (api.MaxText-len(text))/len("\r\n "))
	return strings.Replace(text, "UID:", "UID:"+folds, 1)
}

func TestMaxText(t *testing.T) {
	exact := 0
	for _, name := range []string{"UID:a", "UID:ab", "UID:abc"} {
		text := event(name, start, long)
		full := filled(text)
		printsAs(t, full, text)
		refused(t, api.ErrText, strings.Replace(full, "UID:", "UID:\r\n ", 1))
		if len(full) == api.MaxText {
			exact++
			refused(t, api.ErrText, strings.Replace(full, "UID:", "UID:b", 1))
		}
	}
	if exact != 1 {
		t.Errorf("%d of the texts have MaxText bytes, want 1", exact)
	}
	refused(t, api.ErrText, strings.Repeat("x", api.MaxText+1))
	refused(t, api.ErrText, strings.Repeat("\r\n ", 100000))
}

func TestTextsThatAreNotLines(t *testing.T) {
	plain := event(uid, start, long)
	for _, text := range []string{
		"", "\r\n", "x", "BEGIN:VEVENT", "BEGIN:VEVENT\r\n", "END:VEVENT\r\n", "BEGIN:VEVENT\r\nEND:VEVENT", "END:VEVENT\r\nBEGIN:VEVENT\r\n", event(),
		strings.TrimSuffix(plain, "\n"), strings.TrimSuffix(plain, "\r\n"),
		strings.ReplaceAll(plain, "\r\n", "\n"), strings.ReplaceAll(plain, "\r\n", "\r"), strings.ReplaceAll(plain, "\r\n", "\n\r"),
		plain + "\r\n", plain + "x", plain + "x\r\n", plain + plain, "x" + plain, "\r\n" + plain, " " + plain,
		with(""), with("", ""), with("BEGIN:VEVENT"), with("END:VEVENT"),
		strings.Replace(plain, "BEGIN:VEVENT", "BEGIN:VTODO", 1), strings.Replace(plain, "END:VEVENT", "END:VTODO", 1),
		strings.Replace(plain, "BEGIN", "begin", 1), strings.Replace(plain, "END:VEVENT", "END:VEVENT ", 1),
	} {
		refused(t, api.ErrText, text)
	}
}

func TestPropertiesThatAreWrong(t *testing.T) {
	for _, text := range []string{
		with("SUMMARY:x"), with("COMMENT"), with("STATUS"), with(":x"), with("status:CONFIRMED"), with("STATUS :CONFIRMED"), with("STATUS;X=1:CONFIRMED"), with("RRULE=FREQ:DAILY"),
		event(uid, start, "DURATION"), event(uid, "DTSTART;VALUE=DATE:20240102", long),
		with(uid), with("UID:b"), with(start), with(long), with(ends), event(uid, start, ends, ends),
		with("RRULE:FREQ=DAILY", "RRULE:FREQ=DAILY"), with("EXDATE:20240102T000000Z", "EXDATE:20240102T000000Z"), with("RDATE:20240102T000000Z", "RDATE:20240102T000000Z"), with("TRANSP:OPAQUE", "TRANSP:OPAQUE"), with("STATUS:CONFIRMED", "STATUS:CONFIRMED"),
		event(start, long), event(uid, long), event(uid, ends), event(uid, start), event(uid),
	} {
		refused(t, api.ErrText, text)
	}
}

func TestValuesOfWords(t *testing.T) {
	for _, name := range []string{"a", "z", "0", "9", strings.Repeat("a", api.MaxName)} {
		printsAs(t, event("UID:"+name, start, long), event("UID:"+name, start, long))
	}
	for _, name := range []string{"", strings.Repeat("a", api.MaxName+1), "A", "a b", " a", "a ", "a-b", "a:b", "ä", "a\n", "a\r", "a\x00"} {
		refused(t, api.ErrText, event("UID:"+name, start, long))
	}
	for _, line := range []string{"TRANSP:", "TRANSP:opaque", "TRANSP:FREE", "TRANSP:OPAQUE ", "TRANSP: OPAQUE", "TRANSP:OPAQUE,OPAQUE", "STATUS:", "STATUS:confirmed", "STATUS:CANCELED", "STATUS:CONFIRMED ", "STATUS:CONFIRMED,TENTATIVE"} {
		refused(t, api.ErrText, with(line))
	}
}

func TestTimesOfEvents(t *testing.T) {
	for _, time := range []string{"", "x", "20240102", "20230229T000000Z", "20240102T240000Z", "19691231T235959Z", "22000101T000000Z", "20240102T000000Z ", "20240102T000000Z,", "20240102T000000"} {
		refused(t, api.ErrTime, event(uid, "DTSTART:"+time, long))
		refused(t, api.ErrTime, event(uid, start, "DTEND:"+time))
		refused(t, api.ErrTime, with("EXDATE:"+time))
		refused(t, api.ErrTime, with("RDATE:"+time))
		refused(t, api.ErrTime, with("EXDATE:20240102T000000Z,"+time))
		refused(t, api.ErrTime, with("RDATE:"+time+",20240102T000000Z"))
	}
	refused(t, api.ErrTime, with("EXDATE:20240102T000000Z;20240103T000000Z"))
	accepted(t, event(uid, "DTSTART:19700101T000000Z", long))
	accepted(t, event(uid, "DTSTART:21991231T235959Z", long))
	accepted(t, event(uid, "DTSTART:21991231T235958Z", "DTEND:21991231T235959Z"))
}

func TestMaxListOfTimes(t *testing.T) {
	for _, name := range []string{"EXDATE:", "RDATE:"} {
		accepted(t, with(name+repeated("20240102T000000Z", api.MaxList)))
		refused(t, api.ErrTime, with(name+repeated("20240102T000000Z", api.MaxList+1)))
	}
}

func TestLengthsOfEvents(t *testing.T) {
	day := event(uid, start, "DURATION:PT1S")
	printsAs(t, event(uid, start, "DTEND:20240102T000001Z"), day)
	longest := event(uid, start, "DURATION:PT"+strconv.Itoa(api.MaxLength)+"S")
	printsAs(t, longest, longest)
	printsAs(t, event(uid, start, "DURATION:P31D"), longest)
	printsAs(t, event(uid, start, "DURATION:P30DT23H59M60S"), longest)
	printsAs(t, event(uid, start, "DTEND:20240202T000000Z"), longest)
	for _, line := range []string{
		"DURATION:PT0S", "DURATION:P0D", "DURATION:P31DT1S", "DURATION:PT" + strconv.Itoa(api.MaxLength+1) + "S", "DURATION:P32D", "DURATION:P9999999DT9999999H9999999M9999999S",
		"DTEND:20240102T000000Z", "DTEND:20240101T235959Z", "DTEND:19700101T000000Z", "DTEND:20240202T000001Z", "DTEND:21991231T235959Z",
		"DURATION:", "DURATION:P", "DURATION:PT", "DURATION:1H", "DURATION:PT1M1H", "DURATION:PT01H", "DURATION:PT10000000S", "DURATION:-PT1H", "DURATION:P1W", "DURATION:PT1H,PT1H",
	} {
		refused(t, api.ErrTime, event(uid, start, line))
	}
}

func TestRulesThatAreRight(t *testing.T) {
	for _, rule := range []string{
		"FREQ=DAILY", "FREQ=WEEKLY", "FREQ=MONTHLY", "FREQ=YEARLY",
		"FREQ=DAILY;INTERVAL=2", "FREQ=DAILY;INTERVAL=" + strconv.Itoa(api.MaxInterval),
		"FREQ=DAILY;COUNT=1", "FREQ=DAILY;COUNT=" + strconv.Itoa(api.MaxCount),
		"FREQ=DAILY;UNTIL=19700101T000000Z", "FREQ=DAILY;UNTIL=21991231T235959Z",
		"FREQ=DAILY;BYMONTH=1", "FREQ=WEEKLY;BYMONTH=12", "FREQ=YEARLY;BYMONTH=" + repeated("1", api.MaxList),
		"FREQ=DAILY;BYMONTHDAY=1", "FREQ=MONTHLY;BYMONTHDAY=31", "FREQ=YEARLY;BYMONTHDAY=-1,-31", "FREQ=YEARLY;BYMONTHDAY=" + repeated("-31", api.MaxList),
		"FREQ=DAILY;BYDAY=MO,TU,WE,TH,FR,SA,SU", "FREQ=WEEKLY;BYDAY=" + repeated("SU", api.MaxList),
		"FREQ=MONTHLY;BYDAY=1MO", "FREQ=MONTHLY;BYDAY=53MO", "FREQ=YEARLY;BYDAY=-1SU,-53FR,TU", "FREQ=YEARLY;BYMONTH=2;BYDAY=5MO",
		"FREQ=DAILY;BYMONTHDAY=13;BYDAY=MO", "FREQ=MONTHLY;BYMONTHDAY=13;BYDAY=MO", "FREQ=YEARLY;BYMONTHDAY=13;BYDAY=MO",
		"FREQ=DAILY;BYMONTH=1;BYSETPOS=1", "FREQ=DAILY;BYMONTHDAY=1;BYSETPOS=366", "FREQ=WEEKLY;BYDAY=MO;BYSETPOS=-366", "FREQ=WEEKLY;BYDAY=MO;BYSETPOS=" + repeated("-366", api.MaxList),
		"FREQ=YEARLY;BYMONTH=1;BYMONTHDAY=1;BYDAY=MO;BYSETPOS=1,-1",
		"FREQ=DAILY;WKST=SU", "FREQ=YEARLY;WKST=WE",
	} {
		printsAs(t, with("RRULE:"+rule), with("RRULE:"+rule))
	}
}

func TestRulesThatAreWrong(t *testing.T) {
	for _, rule := range []string{
		"", ";", "=", "x", "FREQ", "FREQ=", "FREQ=HOURLY", "FREQ=daily", "freq=DAILY", " FREQ=DAILY", "FREQ=DAILY ", "FREQ =DAILY", "FREQ=DAILY,WEEKLY", "FREQ=DAILY=1", "FREQ:DAILY",
		"FREQ=DAILY;", ";FREQ=DAILY", "FREQ=DAILY;;COUNT=1", "FREQ=DAILY,COUNT=1", "FREQ=DAILY;X=1", "FREQ=DAILY;BYHOUR=1", "FREQ=DAILY;BYWEEKNO=1", "FREQ=DAILY;COUNT", "FREQ=DAILY;count=1",
		"INTERVAL=1", "COUNT=1", "FREQ=DAILY\n", "FREQ=DAILY\nCOUNT=1",
	} {
		refused(t, api.ErrRule, with("RRULE:"+rule))
	}
	refused(t, api.ErrRule, with("RRULE:FREQ=YEARLY;FREQ=YEARLY"))
	for _, part := range []string{"INTERVAL=1", "COUNT=1", "UNTIL=20250101T000000Z", "BYMONTH=1", "BYMONTHDAY=1", "BYDAY=MO", "BYMONTH=1;BYSETPOS=1", "WKST=MO"} {
		accepted(t, with("RRULE:FREQ=YEARLY;"+part))
		refused(t, api.ErrRule, with("RRULE:FREQ=YEARLY;"+part+";"+part[strings.LastIndex(part, ";")+1:]))
		refused(t, api.ErrRule, with("RRULE:"+part))
	}
}

func TestValuesOfRulesThatAreWrong(t *testing.T) {
	for name, values := range map[string][]string{
		"INTERVAL":   {"", "0", "-1", "01", "101", strconv.Itoa(api.MaxInterval + 1), "10000000", "99999999999999999999", "1,2", "x", "+1", " 1"},
		"COUNT":      {"", "0", "-1", "01", strconv.Itoa(api.MaxCount + 1), "10000000", "99999999999999999999", "1,2", "x", "+1"},
		"UNTIL":      {"", "20250101", "20230229T000000Z", "22000101T000000Z", "20250101T000000", "20250101T000000Z,20250101T000000Z", "1"},
		"BYMONTH":    {"", "0", "13", "-1", "01", "1,", ",1", "1,,2", "1 ,2", "JAN", repeated("1", api.MaxList+1)},
		"BYMONTHDAY": {"", "0", "32", "-0", "-32", "+1", "--1", "01", "-01", "-", "1,", repeated("1", api.MaxList+1)},
		"BYDAY":      {"", "M", "MON", "mo", "Mo", "XX", "MO,", ",MO", "MO TU", "1", "-1", "0MO", "-0MO", "54MO", "-54MO", "+1MO", "--1MO", "-MO", "01MO", "1 MO", "1", "MO1", "1M", repeated("MO", api.MaxList+1)},
		"WKST":       {"", "M", "mo", "XX", "MO,TU", "1MO", "0"},
	} {
		for _, value := range values {
			refused(t, api.ErrRule, with("RRULE:FREQ=YEARLY;"+name+"="+value))
		}
	}
	for _, value := range []string{"", "0", "367", "-0", "-367", "+1", "01", "1,", "x", repeated("1", api.MaxList+1)} {
		refused(t, api.ErrRule, with("RRULE:FREQ=YEARLY;BYMONTH=1;BYSETPOS="+value))
	}
}

func TestPartsThatDoNotAgree(t *testing.T) {
	for _, rule := range []string{
		"FREQ=DAILY;COUNT=1;UNTIL=20250101T000000Z", "UNTIL=20250101T000000Z;COUNT=1;FREQ=DAILY",
		"FREQ=WEEKLY;BYMONTHDAY=1", "BYMONTHDAY=-1;FREQ=WEEKLY", "FREQ=WEEKLY;BYMONTHDAY=1;BYDAY=MO",
		"FREQ=DAILY;BYDAY=1MO", "FREQ=WEEKLY;BYDAY=1MO", "FREQ=WEEKLY;BYDAY=MO,-1MO",
		"FREQ=MONTHLY;BYDAY=1MO;BYMONTHDAY=1", "FREQ=YEARLY;BYMONTHDAY=1;BYDAY=TU,-1MO",
		"FREQ=DAILY;BYSETPOS=1", "FREQ=YEARLY;BYSETPOS=-1;INTERVAL=2;COUNT=1;WKST=SU",
	} {
		refused(t, api.ErrRule, with("RRULE:"+rule))
	}
}

// ErrText is named first, then ErrTime, then ErrRule, wherever in the text each one is.
func TestTheErrorThatIsNamedFirst(t *testing.T) {
	const noRule = "RRULE:x"
	badTimes := [][]string{
		{uid, "DTSTART:x", long}, {uid, start, "DTEND:x"}, {uid, start, "DURATION:x"}, {uid, start, "DURATION:PT0S"}, {uid, start, "DTEND:20240101T000000Z"},
		{uid, start, long, "EXDATE:x"}, {uid, start, long, "RDATE:"}, {uid, start, long, "RDATE:" + repeated("20240102T000000Z", api.MaxList+1)},
	}
	badTexts := []string{"STATUS:x", "TRANSP:x", "SUMMARY:x", "UID:a1", "", "x", "END:VEVENT"}
	for _, lines := range badTimes {
		refused(t, api.ErrTime, event(lines...))
		refused(t, api.ErrTime, event(append([]string{noRule}, lines...)...))
		refused(t, api.ErrTime, event(append(lines, noRule)...))
		for _, bad := range badTexts {
			refused(t, api.ErrText, event(append([]string{noRule}, append(lines, bad)...)...))
			refused(t, api.ErrText, event(append([]string{bad, noRule}, lines...)...))
		}
		refused(t, api.ErrText, event(append(lines[1:], noRule)...))
		refused(t, api.ErrText, event(append(lines, noRule)...)+strings.Repeat("\r\n ", 700))
	}
	for _, bad := range badTexts {
		refused(t, api.ErrText, with(noRule, bad))
	}
	refused(t, api.ErrText, event("UID:A", start, long, noRule))
	refused(t, api.ErrText, event("UID:A", "DTSTART:x", long))
	refused(t, api.ErrText, event(uid, "DTSTART:x", long, ends))
	refused(t, api.ErrText, event(uid, "DTSTART:x"))
	refused(t, api.ErrRule, with(noRule))
	refused(t, api.ErrRule, with("RRULE:FREQ=DAILY;UNTIL=x"))
}

// settled tells whether an answer is as P1 and P4 say of all: beside an error nothing, else an event that is printed as it is.
// What is printed has the instances of the event itself, in 2024 (P5).
func settled(t *testing.T, text string) {
	t.Helper()
	const from, to = 1704067200, 1735689600
	got, errno := Check(text)
	switch errno {
	case api.OK:
		printsAs(t, got, got)
		want, wantErrno := Instances(got, from, to)
		if spans, errno := Instances(text, from, to); errno != wantErrno || !slices.Equal(spans, want) {
			t.Errorf("P5: Instances(%q) = %v, %d, but as it is printed %v, %d", text, spans, errno, want, wantErrno)
		}
	case api.ErrText, api.ErrTime, api.ErrRule:
		refused(t, errno, text)
		answersErrno(t, text, from, to, errno)
	default:
		t.Errorf("P1: Check(%q) = %q, %d", text, got, errno)
	}
}

func TestEveryChangedTextIsAnswered(t *testing.T) {
	text := with("RRULE:FREQ=YEARLY;INTERVAL=2;COUNT=3;BYMONTH=1,2;BYDAY=-1MO,TU;BYSETPOS=1;WKST=SU",
		"EXDATE:20240103T000000Z,20240102T000000Z", "RDATE:20240103T000000Z", "TRANSP:TRANSPARENT", "STATUS:TENTATIVE")
	accepted(t, text)
	for i := range len(text) {
		settled(t, text[:i])
		settled(t, text[i:])
		for _, put := range []string{"", "0", "1", "9", "-", ":", ";", "=", ",", " ", "\r", "\n", "\r\n", "\r\n ", "M", "T", "Z", "a", "\x00", "\xff", "é"} {
			settled(t, text[:i]+put+text[i:])
			settled(t, text[:i]+put+text[i+1:])
		}
		for j := i; j < min(i+40, len(text)); j++ {
			settled(t, text[:i]+text[j:])
		}
	}
}

func FuzzCheck(f *testing.F) {
	f.Add(event(uid, start, long))
	f.Add(with("RRULE:FREQ=MONTHLY;BYDAY=-1FR", "EXDATE:20240103T000000Z", "STATUS:CANCELLED"))
	f.Fuzz(func(t *testing.T, text string) { settled(t, text) })
}

func TestAnswersDependOnTheArgumentAlone(t *testing.T) {
	texts := []string{event(uid, start, long), with("RRULE:x"), event(uid, start, "DURATION:x"), "", with("RRULE:FREQ=DAILY", "STATUS:TENTATIVE")}
	type answer struct {
		text  string
		errno api.Errno
	}
	first := make([]answer, len(texts))
	for i, text := range texts {
		first[i].text, first[i].errno = Check(text)
	}
	for round := range 3 * len(texts) {
		i := round * 2 % len(texts)
		if text, errno := Check(texts[i]); first[i] != (answer{text, errno}) {
			t.Errorf("P2: Check(%q) = %q, %d, but at first %v", texts[i], text, errno, first[i])
		}
	}
}
