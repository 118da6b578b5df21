// Package berth: jobs, and when they start: see DOC.md.
package berth

import (
	"berth/api"
	"berth/command"
)

// Parse reads a command (P3).
func Parse(line string) (api.Command, api.Errno) {
	c, err := command.Read(line)
	return c, errnoOf(err)
}

// Render writes a command (P4).
func Render(c api.Command) string {
	// The empty text is all that Render tells of a refusal.
	line, _ := command.Write(c)
	return line
}

// Cluster runs jobs.
type Cluster struct{}

// New makes a cluster (P5).
func New(c api.Config) (*Cluster, api.Errno) { return nil, api.OK }

// Do does what a command says (P6).
func (c *Cluster) Do(x api.Command) api.Reply { return api.Reply{} }

// Line does what a line says (P13).
func (c *Cluster) Line(line string) string { return "" }
