package command

import "errors"

// ErrForm lies at the bottom of every refusal of this package.
var ErrForm = errors.New("not a command")

// Fault wraps a refusal with the part of the command that it is about.
type Fault struct {
	Part string
	Err  error
}

func (f *Fault) Error() string { return f.Part + ": " + f.Err.Error() }

// Unwrap lets errors.Is and errors.As see what is wrapped.
func (f *Fault) Unwrap() error { return f.Err }

func about(part string, err error) error { return &Fault{Part: part, Err: err} }

func refuse(part string) error { return about(part, ErrForm) }
