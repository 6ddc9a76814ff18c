package when

import (
	"math"
	"regexp"
	"strconv"
	"strings"
	"testing"
	"time"

	"fallow/api"
)

const (
	layout   = "20060102T150405Z"
	lastTime = 7258118399
)

func parses(t *testing.T, text string, want int) {
	t.Helper()
	if got, errno := Parse(text); got != want || errno != api.OK {
		t.Errorf("P3: Parse(%q) = %d, %d, want %d", text, got, errno, want)
	}
}

func isNoTime(t *testing.T, text string) {
	t.Helper()
	if got, errno := Parse(text); got != 0 || errno != api.ErrTime {
		t.Errorf("P3: Parse(%q) = %d, %d, want 0, ErrTime", text, got, errno)
	}
}

func prints(t *testing.T, number int, want string) {
	t.Helper()
	if got, errno := Print(number); got != want || errno != api.OK {
		t.Errorf("P3: Print(%d) = %q, %d, want %q", number, got, errno, want)
	}
}

func TestKnownTimes(t *testing.T) {
	for text, number := range map[string]int{
		"19700101T000000Z": 0,
		"19700101T000001Z": 1,
		"20240229T000000Z": 1709164800,
		"20000229T235959Z": 951868799,
		"21991231T235959Z": lastTime,
	} {
		parses(t, text, number)
		prints(t, number, text)
	}
}

// Each day is asked at another time of day; 40503 seconds and a day's seconds have no common divisor but 3.
func TestEveryDay(t *testing.T) {
	for number := 0; number <= lastTime; number += 86400 {
		at := number + number/86400*40503%86400
		text := time.Unix(int64(at), 0).UTC().Format(layout)
		parses(t, text, at)
		prints(t, at, text)
	}
}

func TestEverySecondOfADay(t *testing.T) {
	for at := 1709164800 - 1; at <= 1709164800+86400; at++ {
		text := time.Unix(int64(at), 0).UTC().Format(layout)
		parses(t, text, at)
		prints(t, at, text)
	}
}

func TestDaysThatAreNotThere(t *testing.T) {
	for _, day := range []string{"20230229", "21000229", "19700229", "20240230", "20240431", "20240631", "20240931", "20241131", "20240132", "20240100", "20240001", "20241301", "20240000", "20249999", "20240199"} {
		isNoTime(t, day+"T000000Z")
	}
	for _, day := range []string{"19691231", "22000101", "00000101", "00010101", "99991231", "00000000"} {
		isNoTime(t, day+"T000000Z")
		isNoTime(t, day+"T235959Z")
	}
}

func TestClocksPastTheirEnd(t *testing.T) {
	parses(t, "20240229T230000Z", 1709164800+23*3600)
	parses(t, "20240229T005900Z", 1709164800+59*60)
	parses(t, "20240229T000059Z", 1709164800+59)
	for _, clock := range []string{"240000", "250000", "990000", "006000", "009900", "000060", "000061", "000099"} {
		isNoTime(t, "20240229T"+clock+"Z")
		isNoTime(t, "21991231T"+clock+"Z")
	}
}

func TestTextsThatAreNoTime(t *testing.T) {
	for _, text := range []string{"", "T", "Z", "20240229", "20240229T000000", "20240229T000000Z ", " 20240229T000000Z", "20240229T000000ZZ", "20240229T0000000Z", "2024022T000000Z", "2024-02-29T00:00:00Z", "20240229T000000+0000", "20240229t000000Z", "20240229 000000Z", "20240229T000000z", "20240229T000000\x00", "20240229T00000٠"} {
		isNoTime(t, text)
	}
}

// Whatever byte is put at whatever place, only a digit can make another time.
func TestTimesWithAnotherByte(t *testing.T) {
	const text = "20240229T111111Z"
	for i := range len(text) {
		for b := range 256 {
			changed := text[:i] + string([]byte{byte(b)}) + text[i+1:]
			at, err := time.Parse(layout, changed)
			if err != nil || at.Format(layout) != changed || at.Unix() < 0 || at.Unix() > lastTime {
				isNoTime(t, changed)
			} else {
				parses(t, changed, int(at.Unix()))
			}
		}
		isNoTime(t, text[:i])
		isNoTime(t, text[:i]+text[i+1:])
		isNoTime(t, text[:i]+"0"+text[i:])
	}
}

func TestNumbersThatAreNoTime(t *testing.T) {
	prints(t, 0, "19700101T000000Z")
	prints(t, lastTime, "21991231T235959Z")
	for _, number := range []int{-1, lastTime + 1, -86400, math.MinInt, math.MinInt + 1, math.MaxInt, math.MaxInt - 1, math.MinInt32, -lastTime} {
		if got, errno := Print(number); got != "" || errno != api.ErrTime {
			t.Errorf("P3: Print(%d) = %q, %d, want ErrTime", number, got, errno)
		}
	}
}

func lasts(t *testing.T, text string, want int) {
	t.Helper()
	if got, errno := Length(text); got != want || errno != api.OK {
		t.Errorf("P3: Length(%q) = %d, %d, want %d", text, got, errno, want)
	}
}

func isNoLength(t *testing.T, text string) {
	t.Helper()
	if got, errno := Length(text); got != 0 || errno != api.ErrTime {
		t.Errorf("P3: Length(%q) = %d, %d, want 0, ErrTime", text, got, errno)
	}
}

func TestLengths(t *testing.T) {
	for text, want := range map[string]int{
		"P1DT1H":                             90000,
		"PT90M":                              5400,
		"P0D":                                0,
		"PT0S":                               0,
		"P0DT0H0M0S":                         0,
		"P1D":                                86400,
		"PT1H":                               3600,
		"PT1M":                               60,
		"PT1S":                               1,
		"PT1H1S":                             3601,
		"PT1M1S":                             61,
		"P2DT3H4M5S":                         2*86400 + 3*3600 + 4*60 + 5,
		"P9999999D":                          9999999 * 86400,
		"PT9999999H":                         9999999 * 3600,
		"PT9999999M":                         9999999 * 60,
		"PT9999999S":                         9999999,
		"P1000000DT0S":                       1000000 * 86400,
		"P9999999DT9999999H9999999M9999999S": 9999999 * (86400 + 3600 + 60 + 1),
	} {
		lasts(t, text, want)
	}
}

func TestTextsThatAreNoLength(t *testing.T) {
	for _, text := range []string{"", "P", "PT", "T", "D", "PD", "PTH", "PTM", "PTS", "PDT1H", "P1DTH", "P1DT", "P1H", "P1M", "P1S", "PT1D", "PT1M1H", "PT1S1M", "PT1S1H", "PT1H1D", "PT1HP1D", "PT1HT1M", "PT1H1H", "P1D1D", "P1DT1HT", "P01D", "P00D", "PT00S", "PT1H01M", "P10000000D", "PT10000000H", "PT10000000M", "PT10000000S", "PT0000001S", "P1", "PT1", "P1DT1", "PT1H1", "1D", "p1D", "P1d", "PT1h", "-P1D", "+P1D", "P-1D", "P+1D", "P 1D", "P1D ", " P1D", "P1.5D", "P1,5D", "P1W", "P1Y", "PP1D", "PTT1H", "P1DT1H\r\n", "P١D", "P1D\x00"} {
		isNoLength(t, text)
	}
}

// All short texts of a length's bytes, held against the words of the document.
func TestAllShortTexts(t *testing.T) {
	const number = `(0|[1-9][0-9]{0,6})`
	form := regexp.MustCompile(`^P(?:` + number + `D)?(?:T(?:` + number + `H)?(?:` + number + `M)?(?:` + number + `S)?)?$`)
	var walk func(text string, left int)
	walk = func(text string, left int) {
		found := form.FindStringSubmatch(text)
		if found == nil || strings.HasSuffix(text, "T") || text == "P" {
			isNoLength(t, text)
		} else {
			want := 0
			for i, seconds := range []int{86400, 3600, 60, 1} {
				n, _ := strconv.Atoi("0" + found[i+1])
				want += n * seconds
			}
			lasts(t, text, want)
		}
		if left > 0 {
			for _, b := range "PTDHMS012" {
				walk(text+string(b), left-1)
			}
		}
	}
	walk("", 2)
	walk("P", 5)
	walk("P1D", 4)
	walk("PT", 5)
	walk("PT1H", 4)
}
