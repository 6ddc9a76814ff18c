// Package giveup: how the program stops reading what cannot be read.
package giveup

import "fallow/api"

// reason is a type of its own, so that no panic of another origin is taken for it.
type reason struct {
	errno api.Errno
}

// Unless gives up with errno, unless ok holds.
func Unless(ok bool, errno api.Errno) {
	if !ok {
		panic(reason{errno})
	}
}

// Answer is for the faces of the program: it tells what work answers, or the error with which work gave up.
func Answer[T any](work func() T) (answer T, errno api.Errno) {
	defer func() {
		caught := recover()
		if caught == nil {
			return
		}
		why, ok := caught.(reason)
		if !ok {
			panic(caught)
		}
		errno = why.errno
	}()
	return work(), api.OK
}

// Outcome is Answer for work that has nothing to tell but how it went.
func Outcome(work func()) api.Errno {
	_, errno := Answer(func() struct{} {
		work()
		return struct{}{}
	})
	return errno
}
