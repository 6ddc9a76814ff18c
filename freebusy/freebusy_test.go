package freebusy

import (
	"strings"
	"testing"

	"fallow/api"
	"fallow/events"
)

func TestKindOf(t *testing.T) {
	for _, c := range []struct {
		status      events.Status
		transparent bool
		want        Kind
	}{
		{events.Confirmed, false, Busy},
		{events.Tentative, false, Tentative},
		{events.Cancelled, false, Free},
		{events.Confirmed, true, Free},
		{events.Tentative, true, Free},
		{events.Cancelled, true, Free},
	} {
		if got := KindOf(events.Event{Status: c.status, Transparent: c.transparent}); got != c.want {
			t.Errorf("P8: KindOf(%d, %t) = %d, want %d", c.status, c.transparent, got, c.want)
		}
	}
}

type cover struct {
	kind       Kind
	begin, end int
}

func TestText(t *testing.T) {
	for _, c := range []struct {
		covers []cover
		want   []string
	}{
		{nil, nil},
		{[]cover{{Busy, 12, 14}}, []string{"BUSY:19700101T000012Z/19700101T000014Z"}},
		{[]cover{{Tentative, 12, 14}}, []string{"BUSY-TENTATIVE:19700101T000012Z/19700101T000014Z"}},
		{[]cover{{Free, 12, 14}}, nil},
		{[]cover{{Busy, 0, 100}}, []string{"BUSY:19700101T000010Z/19700101T000020Z"}},
		{[]cover{{Busy, 0, 11}, {Tentative, 19, 100}}, []string{"BUSY:19700101T000010Z/19700101T000011Z", "BUSY-TENTATIVE:19700101T000019Z/19700101T000020Z"}},
		{[]cover{{Busy, 14, 16}, {Busy, 12, 14}}, []string{"BUSY:19700101T000012Z/19700101T000016Z"}},
		{[]cover{{Tentative, 11, 19}, {Busy, 12, 14}, {Busy, 13, 15}, {Tentative, 14, 17}}, []string{
			"BUSY-TENTATIVE:19700101T000011Z/19700101T000012Z", "BUSY:19700101T000012Z/19700101T000015Z", "BUSY-TENTATIVE:19700101T000015Z/19700101T000019Z"}},
		{[]cover{{Busy, 15, 16}, {Busy, 11, 12}, {Busy, 13, 14}}, []string{
			"BUSY:19700101T000011Z/19700101T000012Z", "BUSY:19700101T000013Z/19700101T000014Z", "BUSY:19700101T000015Z/19700101T000016Z"}},
	} {
		sheet := New(10, 20)
		for _, cover := range c.covers {
			sheet.Cover(cover.kind, api.Span{Begin: cover.begin, End: cover.end})
		}
		lines := []string{"BEGIN:VFREEBUSY", "DTSTART:19700101T000010Z", "DTEND:19700101T000020Z"}
		for _, line := range c.want {
			lines = append(lines, "FREEBUSY;FBTYPE="+line)
		}
		want := strings.Join(append(lines, "END:VFREEBUSY", ""), "\r\n")
		for range 2 {
			if got := sheet.Text(); got != want {
				t.Errorf("P8: %v: %q, want %q", c.covers, got, want)
			}
		}
	}
}
