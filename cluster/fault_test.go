package cluster

import (
	"errors"
	"reflect"
	"testing"

	"berth/api"
)

// full is a cluster with as many live jobs as may be.
func full(t *testing.T) *Cluster {
	t.Helper()
	c, err := New(api.Config{Nodes: 4, Jobs: 1, Wall: 100, End: 1000})
	if err != nil {
		t.Fatal(err)
	}
	if _, err := c.Submit(1, 1); err != nil {
		t.Fatal(err)
	}
	return c
}

func TestRefusalsTellWhatTheyAreAbout(t *testing.T) {
	c := full(t)
	for _, r := range []struct {
		call   func() (api.Reply, error)
		bottom error
		text   string
	}{
		{func() (api.Reply, error) { return c.Submit(5, 101) }, ErrWidth, "submit: width 5: more nodes than there are, or none"},
		{func() (api.Reply, error) { return c.Submit(4, 101) }, ErrWall, "submit: wall 101: longer than may be, or no time at all"},
		{func() (api.Reply, error) { return c.Submit(4, 100) }, ErrFull, "submit: live jobs 1: too many jobs are live"},
		{func() (api.Reply, error) { return c.Tick(1001) }, ErrTime, "tick: by 1001: behind the end of time"},
	} {
		reply, err := r.call()
		var value *ValueError
		if !errors.Is(err, r.bottom) || !errors.As(err, &value) || err.Error() != r.text {
			t.Errorf("refused with %v, want %s", err, r.text)
		}
		if !reflect.DeepEqual(reply, api.Reply{}) {
			t.Errorf("%v: refused, but answered %+v", err, reply)
		}
	}
}

func TestIDsOfNoJobAreRefusedByTheirOwnError(t *testing.T) {
	c := full(t)
	for _, id := range []int{-1 << 63, -1, 0, 2, 1<<63 - 1} {
		reply, err := c.Stat(id)
		var call *CallError
		var job *JobError
		if !errors.As(err, &call) || call.Call != "stat" || !errors.As(err, &job) || job.ID != id {
			t.Errorf("Stat(%d) is refused with %v", id, err)
		}
		if !reflect.DeepEqual(reply, api.Reply{}) {
			t.Errorf("Stat(%d) is refused, but answered %+v", id, reply)
		}
	}
	if _, err := c.Stat(2); err.Error() != "stat: no job 2" {
		t.Errorf("Stat(2) is refused with %v", err)
	}
}

func TestConfigsAreRefusedByTheFirstThatIsWrong(t *testing.T) {
	for _, r := range []struct {
		config api.Config
		text   string
	}{
		{api.Config{}, "new: nodes 0: no such cluster may be"},
		{api.Config{Nodes: 1, Jobs: 31}, "new: jobs 31: no such cluster may be"},
		{api.Config{Nodes: 1, Jobs: 1, Wall: -1}, "new: wall -1: no such cluster may be"},
		{api.Config{Nodes: 1, Jobs: 1, Wall: 1, End: -1}, "new: end -1: no such cluster may be"},
		{api.Config{Nodes: 1, Jobs: 2, Wall: 3, End: api.MaxTime - 5}, "new: end of the last job 4611686018427387905: no such cluster may be"},
	} {
		c, err := New(r.config)
		if c != nil || !errors.Is(err, ErrConfig) || err.Error() != r.text {
			t.Errorf("New(%+v) = %v, %v, want %s", r.config, c, err, r.text)
		}
	}
}
