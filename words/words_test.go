package words

import (
	"slices"
	"strings"
	"testing"
	"unsafe"

	"fallow/api"
	"fallow/giveup"
)

func TestNumber(t *testing.T) {
	for text, want := range map[string]int{"0": 0, "1": 1, "10": 10, "9999999": 9999999, "1000000": 1000000} {
		got, errno := giveup.Answer(func() int { return Number(text, api.ErrRule) })
		if got != want || errno != api.OK {
			t.Errorf("P3: Number(%q) = %d, %d, want %d", text, got, errno, want)
		}
	}
	for _, text := range []string{"", "00", "01", "0000001", "10000000", "-1", "+1", " 1", "1 ", "1a", "a", "/", ":", "\x00", "١"} {
		got, errno := giveup.Answer(func() int { return Number(text, api.ErrRule) })
		if got != 0 || errno != api.ErrRule {
			t.Errorf("P3: Number(%q) = %d, %d, want ErrRule", text, got, errno)
		}
	}
}

func TestSigned(t *testing.T) {
	for text, want := range map[string]int{"1": 1, "31": 31, "-1": -1, "-31": -31} {
		got, errno := giveup.Answer(func() int { return Signed(text, 31, api.ErrRule) })
		if got != want || errno != api.OK {
			t.Errorf("P4: Signed(%q) = %d, %d, want %d", text, got, errno, want)
		}
	}
	for _, text := range []string{"", "-", "0", "-0", "--1", "+1", "32", "-32", "1-", "- 1", "-01"} {
		if got, errno := giveup.Answer(func() int { return Signed(text, 31, api.ErrRule) }); errno != api.ErrRule {
			t.Errorf("P4: Signed(%q) = %d, %d, want ErrRule", text, got, errno)
		}
	}
}

func TestName(t *testing.T) {
	for _, text := range []string{"a", "z", "0", "9", "a1b2", "abcdefghijkl"} {
		got, errno := giveup.Answer(func() string { return Name(text, api.ErrName) })
		if got != text || errno != api.OK {
			t.Errorf("P4: Name(%q) = %q, %d", text, got, errno)
		}
	}
	for _, text := range []string{"", "abcdefghijklm", "A", "a b", "`", "{", "/", ":", "ä", "a\n", "a-"} {
		got, errno := giveup.Answer(func() string { return Name(text, api.ErrName) })
		if got != "" || errno != api.ErrName {
			t.Errorf("P4: Name(%q) = %q, %d, want ErrName", text, got, errno)
		}
	}
}

// A name that is kept does not keep the text from which it was read.
func TestNameIsACopy(t *testing.T) {
	text := "name and more"
	if name := Name(text[:4], api.ErrName); unsafe.StringData(name) == unsafe.StringData(text) {
		t.Errorf("P2: the name %q lies in the text itself", name)
	}
}

func TestFields(t *testing.T) {
	names := []string{"A", "B", "C"}
	read := func(pieces ...string) ([]Field, api.Errno) {
		return giveup.Answer(func() []Field { return Fields(pieces, ":", names, api.ErrText) })
	}
	got, errno := read("C:", "A:1:2")
	want := []Field{{"1:2", true}, {}, {"", true}}
	if !slices.Equal(got, want) || errno != api.OK {
		t.Errorf("P4: Fields = %v, %d, want %v", got, errno, want)
	}
	for _, pieces := range [][]string{{"A"}, {""}, {":"}, {"a:1"}, {"D:1"}, {"A:1", "A:1"}, {"A :1"}, {" A:1"}} {
		if got, errno := read(pieces...); got != nil || errno != api.ErrText {
			t.Errorf("P4: Fields(%q) = %v, %d, want ErrText", pieces, got, errno)
		}
	}
}

func TestList(t *testing.T) {
	read := func(field Field) ([]int, api.Errno) {
		return giveup.Answer(func() []int {
			return List(field, api.ErrTime, func(text string) int { return Number(text, api.ErrTime) })
		})
	}
	if got, errno := read(Field{}); got != nil || errno != api.OK {
		t.Errorf("P4: no field: %v, %d", got, errno)
	}
	if got, errno := read(Field{"3,1,3", true}); !slices.Equal(got, []int{3, 1, 3}) || errno != api.OK {
		t.Errorf("P4: List(3,1,3) = %v, %d", got, errno)
	}
	if got, errno := read(Field{"1" + strings.Repeat(",1", api.MaxList-1), true}); len(got) != api.MaxList || errno != api.OK {
		t.Errorf("P4: MaxList values: %v, %d", got, errno)
	}
	for _, text := range []string{"", ",", "1,", ",1", "1,,1", "1;1", "1" + strings.Repeat(",1", api.MaxList)} {
		if got, errno := read(Field{text, true}); got != nil || errno != api.ErrTime {
			t.Errorf("P4: List(%q) = %v, %d, want ErrTime", text, got, errno)
		}
	}
}

func TestLines(t *testing.T) {
	for text, want := range map[string][]string{
		"\r\n":                  {""},
		"a\r\n":                 {"a"},
		"a\r\nb\r\n":            {"a", "b"},
		"a\r\n b\r\n":           {"ab"},
		"a\r\n  b\r\n":          {"a b"},
		"a\r\n \r\n b\r\n":      {"ab"},
		"a\r\n\tb\r\n":          {"a", "\tb"},
		"a\nb\rc\r\n":           {"a\nb\rc"},
		"a\r\r\n \nb\r\n":       {"a", "b"},
		"a\r\r\n \n b\r\n":      {"a", " b"},
		"\r\n a\r\n":            {"a"},
		"a\r\n\r\n":             {"a", ""},
		"a\r\nb\r\n c\r\n \r\n": {"a", "bc"},
	} {
		got, errno := giveup.Answer(func() []string { return Lines(text, api.ErrText) })
		if !slices.Equal(got, want) || errno != api.OK {
			t.Errorf("P4: Lines(%q) = %q, %d, want %q", text, got, errno, want)
		}
	}
	for _, text := range []string{"", "a", "a\n", "a\r", "a\n\r", "a\r\n ", "a\r\nb", "a\r\n\n"} {
		if got, errno := giveup.Answer(func() []string { return Lines(text, api.ErrText) }); got != nil || errno != api.ErrText {
			t.Errorf("P4: Lines(%q) = %q, %d, want ErrText", text, got, errno)
		}
	}
}

func TestText(t *testing.T) {
	if got := Text([]string{"a", "", "b"}); got != "a\r\n\r\nb\r\n" {
		t.Errorf("P4: Text = %q", got)
	}
}
