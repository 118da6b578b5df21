package command

import (
	"errors"
	"strings"
	"testing"

	"berth/api"
)

// refusedFor fails unless err is a refusal of this package whose text tells the parts, outermost first.
func refusedFor(t *testing.T, what string, err error, parts string) {
	t.Helper()
	var fault *Fault
	if !errors.Is(err, ErrForm) || !errors.As(err, &fault) {
		t.Errorf("%.60q: %v is no refusal of this package", what, err)
		return
	}
	if want := parts + ": " + ErrForm.Error(); err.Error() != want {
		t.Errorf("%.60q: refused for %q, want %q", what, err, want)
	}
}

func TestReadTellsWhatItRefused(t *testing.T) {
	for _, c := range []struct{ line, parts string }{
		{"", "word"},
		{strings.Repeat("X", api.MaxLine), "word"},
		{strings.Repeat("X", api.MaxLine+1), "length"},
		{"STAT " + strings.Repeat("0", api.MaxLine-5), "STAT: count of digits"},
		{"STAT " + strings.Repeat("0", api.MaxLine-4), "length"},
		{"SUBMIT 1", "SUBMIT: count of numbers"},
		{"SUBMIT 1 2 3", "SUBMIT: count of numbers"},
		{"INFO ", "INFO: count of numbers"},
		{"TICK ", "TICK: count of digits"},
		{"TICK 0000000000000000001", "TICK: count of digits"},
		{"DONE -1", "DONE: digit"},
	} {
		got, err := Read(c.line)
		refusedFor(t, c.line, err, c.parts)
		if got != (api.Command{}) {
			t.Errorf("%.60q: refused, but read as %+v", c.line, got)
		}
	}
}

func TestWriteTellsWhatItRefused(t *testing.T) {
	for _, c := range []struct {
		c     api.Command
		parts string
	}{
		{api.Command{}, "kind"},
		{api.Command{Kind: api.Info + 1}, "kind"},
		{api.Command{Kind: api.Submit, A: 1, B: maxNumber + 1}, "SUBMIT: number"},
		{api.Command{Kind: api.Cancel, A: -1}, "CANCEL: number"},
		{api.Command{Kind: api.Cancel, A: 1, B: 1}, "CANCEL: number"},
		{api.Command{Kind: api.Queue, A: 1}, "QUEUE: number"},
	} {
		line, err := Write(c.c)
		refusedFor(t, line, err, c.parts)
		if line != "" {
			t.Errorf("%+v: refused, but written as %q", c.c, line)
		}
	}
}
