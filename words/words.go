// Package words: what texts are made of: numbers, names, choices, lists, fields and lines.
// What is not written as it should be gives up, with the error that the caller names.
package words

import (
	"slices"
	"strings"

	"fallow/api"
	"fallow/giveup"
)

const (
	lineEnd      = "\r\n"
	fold         = lineEnd + " "
	numberDigits = 7
)

// Digits reads digits alone, leading zeros too; there must not be more of them than an int can hold.
func Digits(text string, errno api.Errno) int {
	number := 0
	for i := range len(text) {
		giveup.Unless(isDigit(text[i]), errno)
		number = number*10 + int(text[i]-'0')
	}
	return number
}

// Number reads a number.
func Number(text string, errno api.Errno) int {
	giveup.Unless(text != "" && len(text) <= numberDigits, errno)
	giveup.Unless(text == "0" || text[0] != '0', errno)
	return Digits(text, errno)
}

// NumberWithin reads a number from least to most.
func NumberWithin(text string, least int, most int, errno api.Errno) int {
	number := Number(text, errno)
	giveup.Unless(least <= number && number <= most, errno)
	return number
}

// Signed reads a number from 1 to most, perhaps with a '-' ahead.
func Signed(text string, most int, errno api.Errno) int {
	digits, negative := strings.CutPrefix(text, "-")
	number := NumberWithin(digits, 1, most, errno)
	if negative {
		return -number
	}
	return number
}

// Name reads a name. It is a copy: names are kept, and a piece of a text would keep the whole of it.
func Name(text string, errno api.Errno) string {
	giveup.Unless(text != "" && len(text) <= api.MaxName, errno)
	for i := range len(text) {
		giveup.Unless(isDigit(text[i]) || 'a' <= text[i] && text[i] <= 'z', errno)
	}
	return strings.Clone(text)
}

// Choice tells which one of choices the text is.
func Choice(text string, choices []string, errno api.Errno) int {
	place := slices.Index(choices, text)
	giveup.Unless(place >= 0, errno)
	return place
}

// Field is the value that stands behind a name. An empty value is not the same as none.
type Field struct {
	Value string
	There bool
}

// Or is the field's value, or another one, if it is not there.
func (f Field) Or(other string) string {
	if f.There {
		return f.Value
	}
	return other
}

// Fields reads pieces, each a name, a mark and a value, no name twice: one field for each of names, in their order.
func Fields(pieces []string, mark string, names []string, errno api.Errno) []Field {
	fields := make([]Field, len(names))
	for _, piece := range pieces {
		name, value, marked := strings.Cut(piece, mark)
		giveup.Unless(marked, errno)
		place := Choice(name, names, errno)
		giveup.Unless(!fields[place].There, errno)
		fields[place] = Field{Value: value, There: true}
	}
	return fields
}

// List reads the values of a field that is a list, each by read; a field that is not there has none.
func List[T any](field Field, errno api.Errno, read func(text string) T) []T {
	if !field.There {
		return nil
	}
	texts := strings.Split(field.Value, ",")
	giveup.Unless(len(texts) <= api.MaxList, errno)
	values := make([]T, len(texts))
	for i, text := range texts {
		values[i] = read(text)
	}
	return values
}

// Lines unfolds a text and reads its lines, without their ends.
func Lines(text string, errno api.Errno) []string {
	unfolded := strings.ReplaceAll(text, fold, "")
	inner, ended := strings.CutSuffix(unfolded, lineEnd)
	giveup.Unless(ended, errno)
	return strings.Split(inner, lineEnd)
}

// Text is the text of these lines.
func Text(lines []string) string {
	var text strings.Builder
	for _, line := range lines {
		text.WriteString(line)
		text.WriteString(lineEnd)
	}
	return text.String()
}

func isDigit(b byte) bool {
	return '0' <= b && b <= '9'
}
