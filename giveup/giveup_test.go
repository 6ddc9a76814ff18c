package giveup

import (
	"errors"
	"testing"

	"fallow/api"
)

func TestAnswerTellsWhatWorkAnswers(t *testing.T) {
	answer, errno := Answer(func() int {
		Unless(true, api.ErrTime)
		return 7
	})
	if answer != 7 || errno != api.OK {
		t.Errorf("P1: Answer = %d, %d, want 7, OK", answer, errno)
	}
}

func TestAnswerTellsTheErrorAlone(t *testing.T) {
	for _, want := range []api.Errno{api.ErrTime, api.ErrText, api.ErrRule} {
		answer, errno := Answer(func() string {
			Unless(false, want)
			return "not reached"
		})
		if answer != "" || errno != want {
			t.Errorf("P1: Answer = %q, %d, want nothing and %d", answer, errno, want)
		}
	}
}

func TestEveryOtherPanicGoesOn(t *testing.T) {
	other := errors.New("another panic")
	var caught any
	func() {
		defer func() { caught = recover() }()
		Answer(func() int { panic(other) })
	}()
	if caught != other {
		t.Errorf("Ways: a panic with %v came out as %v", other, caught)
	}
}

func TestOutcome(t *testing.T) {
	done := 0
	if errno := Outcome(func() { done++ }); errno != api.OK || done != 1 {
		t.Errorf("P1: Outcome = %d, the work was done %d times", errno, done)
	}
	errno := Outcome(func() {
		Unless(false, api.ErrNone)
		done++
	})
	if errno != api.ErrNone || done != 1 {
		t.Errorf("P1: Outcome = %d, want %d; the work was done %d times", errno, api.ErrNone, done)
	}
}
