// Package berth: jobs, and when they start: see DOC.md.
package berth

import (
	"sync"

	"berth/answer"
	"berth/api"
	"berth/cluster"
	"berth/command"
)

// Parse reads a command (P3).
func Parse(line string) (api.Command, api.Errno) {
	c, err := command.Read(line)
	return c, errnoOf(err)
}

// Render writes a command (P4).
func Render(c api.Command) string {
	// The empty text is all that Render tells of a refusal.
	line, _ := command.Write(c)
	return line
}

// Cluster runs jobs. It may be asked from several sides at once.
type Cluster struct {
	lock   sync.Mutex
	inside *cluster.Cluster
}

// New makes a cluster (P5).
func New(c api.Config) (*Cluster, api.Errno) {
	inside, err := cluster.New(c)
	if err != nil {
		return nil, errnoOf(err)
	}
	return &Cluster{inside: inside}, api.OK
}

// Do does what a command says (P6).
func (c *Cluster) Do(x api.Command) api.Reply {
	c.lock.Lock()
	defer c.lock.Unlock()
	reply, err := c.do(x)
	reply.Err = errnoOf(err)
	return reply
}

func (c *Cluster) do(x api.Command) (api.Reply, error) {
	if _, err := command.Write(x); err != nil {
		return api.Reply{}, err
	}
	switch x.Kind {
	case api.Submit:
		return c.inside.Submit(x.A, x.B)
	case api.Cancel:
		return c.inside.Cancel(x.A)
	case api.Done:
		return c.inside.Done(x.A)
	case api.Tick:
		return c.inside.Tick(x.A)
	case api.Stat:
		return c.inside.Stat(x.A)
	case api.Queue:
		return c.inside.Queue(), nil
	}
	// There is no other kind that Write lets through.
	return c.inside.Info(), nil
}

// Line does what a line says (P13).
func (c *Cluster) Line(line string) string {
	x, err := Parse(line)
	if err != api.OK {
		return answer.Write(x.Kind, api.Reply{Err: err})
	}
	// The lock is Do's: what it answers is new memory, and needs none.
	return answer.Write(x.Kind, c.Do(x))
}
