package answer

import (
	"testing"

	"berth/api"
)

func TestWrite(t *testing.T) {
	rows := []api.Row{{ID: 2, Promise: 10, Width: 64, Wall: 1}, {ID: 30, Promise: api.MaxTime, Width: 1, Wall: api.MaxWall}}
	events := []api.Event{
		{Kind: api.Moved, ID: 9, Time: 10, To: 0},
		{Kind: api.Ended, ID: 1, Time: 0},
		{Kind: api.Started, ID: 4, Time: api.MaxTime},
	}
	for _, x := range []struct {
		kind  int
		reply api.Reply
		want  string
	}{
		{api.Submit, api.Reply{A: 1, B: 0}, "OK 1 0\n"},
		{api.Submit, api.Reply{A: 12, B: 345, Events: events[2:]}, "OK 12 345\nSTART 4 4611686018427387904\n"},
		{api.Cancel, api.Reply{}, "OK\n"},
		{api.Done, api.Reply{Events: events[:1]}, "OK\nMOVED 9 10 0\n"},
		{api.Tick, api.Reply{Events: events[1:]}, "OK\nEND 1 0\nSTART 4 4611686018427387904\n"},
		{api.Stat, api.Reply{A: api.Queued, B: 1, C: 2}, "OK QUEUED 1 2\n"},
		{api.Stat, api.Reply{A: api.Running}, "OK RUNNING 0 0\n"},
		{api.Stat, api.Reply{A: api.Finished, B: 10, C: 20}, "OK FINISHED 10 20\n"},
		{api.Stat, api.Reply{A: api.TimedOut, B: 0, C: api.MaxTime}, "OK TIMEDOUT 0 4611686018427387904\n"},
		{api.Stat, api.Reply{A: api.Cancelled, B: 3, C: 3}, "OK CANCELLED 3 3\n"},
		{api.Queue, api.Reply{}, "OK 0\n"},
		{api.Queue, api.Reply{Rows: rows[:1]}, "OK 1\nJOB 2 10 64 1\n"},
		{api.Queue, api.Reply{Rows: rows}, "OK 2\nJOB 2 10 64 1\nJOB 30 4611686018427387904 1 1000000000\n"},
		{api.Info, api.Reply{A: 0, B: 64, C: 0}, "OK 0 64 0\n"},
		{api.Tick, api.Reply{Rows: rows[:1], Events: events}, "OK\nJOB 2 10 64 1\nMOVED 9 10 0\nEND 1 0\nSTART 4 4611686018427387904\n"},
	} {
		if got := Write(x.kind, x.reply); got != x.want {
			t.Errorf("P13: Write(%d, %+v) = %q, want %q", x.kind, x.reply, got, x.want)
		}
	}
}

// A refusal reads the same, whatever was refused; kind 0 is a line that was no command.
func TestWriteOfRefusals(t *testing.T) {
	names := map[api.Errno]string{
		api.ErrArg: "ARG", api.ErrWidth: "WIDTH", api.ErrWall: "WALL", api.ErrFull: "FULL",
		api.ErrJob: "JOB", api.ErrPhase: "PHASE", api.ErrTime: "TIME",
	}
	for err, name := range names {
		for kind := 0; kind <= api.Info; kind++ {
			if got, want := Write(kind, api.Reply{Err: err}), "ERR "+name+"\n"; got != want {
				t.Errorf("P13: Write(%d, error %d) = %q, want %q", kind, err, got, want)
			}
		}
	}
}
