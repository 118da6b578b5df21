package cluster

import (
	"errors"
	"strconv"
)

// One of these, or a JobError, lies at the bottom of every refusal of this
// package.
var (
	ErrConfig = errors.New("no such cluster may be")
	ErrWidth  = errors.New("more nodes than there are, or none")
	ErrWall   = errors.New("longer than may be, or no time at all")
	ErrFull   = errors.New("too many jobs are live")
	ErrPhase  = errors.New("not in a phase for that")
	ErrTime   = errors.New("behind the end of time")
)

// JobError refuses an id that is no job's.
type JobError struct {
	ID int
}

func (e *JobError) Error() string { return "no job " + strconv.Itoa(e.ID) }

// ValueError wraps a refusal with the value that it is about.
type ValueError struct {
	Name  string
	Value int
	Err   error
}

func (e *ValueError) Error() string {
	return e.Name + " " + strconv.Itoa(e.Value) + ": " + e.Err.Error()
}

// Unwrap lets errors.Is and errors.As see what is wrapped.
func (e *ValueError) Unwrap() error { return e.Err }

// CallError wraps a refusal with the call that was refused.
type CallError struct {
	Call string
	Err  error
}

func (e *CallError) Error() string { return e.Call + ": " + e.Err.Error() }

// Unwrap lets errors.Is and errors.As see what is wrapped.
func (e *CallError) Unwrap() error { return e.Err }
