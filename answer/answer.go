// Package answer: replies as lines of text.
package answer

import (
	"strconv"

	"berth/api"
)

var errorNames = [...]string{
	api.ErrArg:   "ARG",
	api.ErrWidth: "WIDTH",
	api.ErrWall:  "WALL",
	api.ErrFull:  "FULL",
	api.ErrJob:   "JOB",
	api.ErrPhase: "PHASE",
	api.ErrTime:  "TIME",
}

var phaseNames = [...]string{
	api.Queued:    "QUEUED",
	api.Running:   "RUNNING",
	api.Finished:  "FINISHED",
	api.TimedOut:  "TIMEDOUT",
	api.Cancelled: "CANCELLED",
}

// Write makes the text of what a command of a kind was replied (P13).
func Write(kind int, r api.Reply) string {
	if r.Err != api.OK {
		return string(appendLine(nil, "ERR "+errorNames[r.Err]))
	}
	text := appendFirst(nil, kind, r)
	for _, row := range r.Rows {
		text = appendLine(text, "JOB", row.ID, row.Promise, row.Width, row.Wall)
	}
	for _, event := range r.Events {
		text = appendEvent(text, event)
	}
	return string(text)
}

func appendFirst(text []byte, kind int, r api.Reply) []byte {
	switch kind {
	case api.Submit:
		return appendLine(text, "OK", r.A, r.B)
	case api.Stat:
		return appendLine(text, "OK "+phaseNames[r.A], r.B, r.C)
	case api.Queue:
		return appendLine(text, "OK", len(r.Rows))
	case api.Info:
		return appendLine(text, "OK", r.A, r.B, r.C)
	}
	// The other kinds tell nothing but their events.
	return appendLine(text, "OK")
}

func appendEvent(text []byte, event api.Event) []byte {
	switch event.Kind {
	case api.Started:
		return appendLine(text, "START", event.ID, event.Time)
	case api.Ended:
		return appendLine(text, "END", event.ID, event.Time)
	}
	// There is no third kind but Moved.
	return appendLine(text, "MOVED", event.ID, event.Time, event.To)
}

func appendLine(text []byte, words string, numbers ...int) []byte {
	text = append(text, words...)
	for _, n := range numbers {
		text = append(text, ' ')
		text = strconv.AppendInt(text, int64(n), 10)
	}
	return append(text, '\n')
}
