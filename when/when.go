// Package when: times: see DOC.md, P3.
package when

import (
	"strconv"
	"strings"

	"fallow/api"
	"fallow/days"
	"fallow/giveup"
	"fallow/words"
)

const (
	minute = 60
	hour   = 60 * minute
)

// Parse reads a time.
func Parse(text string) (int, api.Errno) {
	return giveup.Answer(func() int { return readTime(text) })
}

// Print writes a time.
func Print(time int) (string, api.Errno) {
	return giveup.Answer(func() string { return writeTime(time) })
}

// Length reads a length.
func Length(text string) (int, api.Errno) {
	return giveup.Answer(func() int { return readLength(text) })
}

func readTime(text string) int {
	giveup.Unless(len(text) == len("YYYYMMDDTHHMMSSZ"), api.ErrTime)
	giveup.Unless(text[8] == 'T' && text[15] == 'Z', api.ErrTime)
	return readDay(text[:8]).Begin() +
		readClock(text[9:11], 23)*hour +
		readClock(text[11:13], 59)*minute +
		readClock(text[13:15], 59)
}

func readDay(text string) days.Day {
	read := days.Day{
		words.Digits(text[:4], api.ErrTime),
		words.Digits(text[4:6], api.ErrTime),
		words.Digits(text[6:], api.ErrTime),
	}
	giveup.Unless(api.FirstYear <= read[0] && read[0] <= api.LastYear, api.ErrTime)
	giveup.Unless(read.There(), api.ErrTime)
	return read
}

func readClock(text string, last int) int {
	number := words.Digits(text, api.ErrTime)
	giveup.Unless(number <= last, api.ErrTime)
	return number
}

func writeTime(time int) string {
	end := days.Day{api.LastYear + 1, 1, 1}.Begin()
	giveup.Unless(0 <= time && time < end, api.ErrTime)
	date := days.OfTime(time)
	clock := time % days.Seconds
	return padded(date[0], 4) + padded(date[1], 2) + padded(date[2], 2) + "T" +
		padded(clock/hour, 2) + padded(clock%hour/minute, 2) + padded(clock%minute, 2) + "Z"
}

func padded(number int, width int) string {
	text := strconv.Itoa(number)
	return strings.Repeat("0", width-len(text)) + text
}

func readLength(text string) int {
	body, marked := strings.CutPrefix(text, "P")
	giveup.Unless(marked && body != "", api.ErrTime)
	date, clock, divided := strings.Cut(body, "T")
	giveup.Unless(!divided || clock != "", api.ErrTime)
	inDays, date := cutUnit(date, "D", days.Seconds)
	inHours, clock := cutUnit(clock, "H", hour)
	inMinutes, clock := cutUnit(clock, "M", minute)
	inSeconds, clock := cutUnit(clock, "S", 1)
	giveup.Unless(date == "" && clock == "", api.ErrTime)
	return inDays + inHours + inMinutes + inSeconds
}

// cutUnit takes a number and its mark from the text's beginning, if the mark is there: its seconds, and what is left.
func cutUnit(text string, mark string, seconds int) (int, string) {
	number, rest, marked := strings.Cut(text, mark)
	if !marked {
		return 0, text
	}
	return words.Number(number, api.ErrTime) * seconds, rest
}
