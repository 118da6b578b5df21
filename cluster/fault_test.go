package cluster

import (
	"errors"
	"reflect"
	"testing"

	"berth/api"
)

// full is a cluster with as many live jobs as may be: 1 runs, 2 is queued.
func full(t *testing.T) *Cluster {
	t.Helper()
	c, err := New(api.Config{Nodes: 4, Jobs: 2, Wall: 100, End: 1000})
	if err != nil {
		t.Fatal(err)
	}
	for range 2 {
		if _, err := c.Submit(4, 1); err != nil {
			t.Fatal(err)
		}
	}
	return c
}

func TestRefusalsTellWhatTheyAreAbout(t *testing.T) {
	c, over := full(t), full(t)
	if _, err := over.Done(1); err != nil {
		t.Fatal(err)
	}
	for _, r := range []struct {
		call   func() (api.Reply, error)
		bottom error
		text   string
	}{
		{func() (api.Reply, error) { return c.Submit(5, 101) }, ErrWidth, "submit: width 5: more nodes than there are, or none"},
		{func() (api.Reply, error) { return c.Submit(4, 101) }, ErrWall, "submit: wall 101: longer than may be, or no time at all"},
		{func() (api.Reply, error) { return c.Submit(4, 100) }, ErrFull, "submit: live jobs 2: too many jobs are live"},
		{func() (api.Reply, error) { return c.Tick(1001) }, ErrTime, "tick: by 1001: behind the end of time"},
		{func() (api.Reply, error) { return c.Done(2) }, ErrPhase, "done: job 2: not in a phase for that"},
		{func() (api.Reply, error) { return over.Cancel(1) }, ErrPhase, "cancel: job 1: not in a phase for that"},
	} {
		reply, err := r.call()
		var value *ValueError
		if !errors.Is(err, r.bottom) || !errors.As(err, &value) || err.Error() != r.text {
			t.Errorf("refused with %v, want %s", err, r.text)
		}
		if !reflect.DeepEqual(reply, api.Reply{}) {
			t.Errorf("%v: refused, but answered %+v", err, reply)
		}
	}
}

func TestIDsOfNoJobAreRefusedByTheirOwnError(t *testing.T) {
	c := full(t)
	for name, ask := range map[string]func(id int) (api.Reply, error){"stat": c.Stat, "cancel": c.Cancel, "done": c.Done} {
		for _, id := range []int{-1 << 63, -1, 0, 3, 1<<63 - 1} {
			reply, err := ask(id)
			var call *CallError
			var job *JobError
			if !errors.As(err, &call) || call.Call != name || !errors.As(err, &job) || job.ID != id {
				t.Errorf("%s of %d is refused with %v", name, id, err)
			}
			if !reflect.DeepEqual(reply, api.Reply{}) {
				t.Errorf("%s of %d is refused, but answered %+v", name, id, reply)
			}
		}
		if _, err := ask(3); err.Error() != name+": no job 3" {
			t.Errorf("%s of 3 is refused with %v", name, err)
		}
	}
}

func TestConfigsAreRefusedByTheFirstThatIsWrong(t *testing.T) {
	for _, r := range []struct {
		config api.Config
		text   string
	}{
		{api.Config{}, "new: nodes 0: no such cluster may be"},
		{api.Config{Nodes: 1, Jobs: 31}, "new: jobs 31: no such cluster may be"},
		{api.Config{Nodes: 1, Jobs: 1, Wall: -1}, "new: wall -1: no such cluster may be"},
		{api.Config{Nodes: 1, Jobs: 1, Wall: 1, End: -1}, "new: end -1: no such cluster may be"},
		{api.Config{Nodes: 1, Jobs: 2, Wall: 3, End: api.MaxTime - 5}, "new: end of the last job 4611686018427387905: no such cluster may be"},
	} {
		c, err := New(r.config)
		if c != nil || !errors.Is(err, ErrConfig) || err.Error() != r.text {
			t.Errorf("New(%+v) = %v, %v, want %s", r.config, c, err, r.text)
		}
	}
}
