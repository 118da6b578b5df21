package berth_test

import (
	"fmt"
	"math/rand"
	"strings"
	"sync"
	"testing"
	"unsafe"

	"berth/api"
	"berth/berth"
)

// says holds an answer against the wanted lines, byte by byte.
func says(t testing.TB, promise string, c *berth.Cluster, line string, want ...string) {
	t.Helper()
	text := strings.Join(want, "\n") + "\n"
	if got := c.Line(line); got != text {
		t.Errorf("%s: Line(%.60q) = %q, want %q", promise, line, got, text)
	}
}

// expectedText tells a reply by the words of P13, in another way than the program does.
func expectedText(kind int, r api.Reply) string {
	if r.Err != api.OK {
		return "ERR " + []string{"", "ARG", "WIDTH", "WALL", "FULL", "JOB", "PHASE", "TIME"}[r.Err] + "\n"
	}
	text := "OK"
	switch kind {
	case api.Submit:
		text += fmt.Sprintf(" %d %d", r.A, r.B)
	case api.Stat:
		text += fmt.Sprintf(" %s %d %d", []string{"", "QUEUED", "RUNNING", "FINISHED", "TIMEDOUT", "CANCELLED"}[r.A], r.B, r.C)
	case api.Queue:
		text += fmt.Sprintf(" %d", len(r.Rows))
	case api.Info:
		text += fmt.Sprintf(" %d %d %d", r.A, r.B, r.C)
	}
	text += "\n"
	for _, row := range r.Rows {
		text += fmt.Sprintf("JOB %d %d %d %d\n", row.ID, row.Promise, row.Width, row.Wall)
	}
	for _, e := range r.Events {
		switch e.Kind {
		case api.Started:
			text += fmt.Sprintf("START %d %d\n", e.ID, e.Time)
		case api.Ended:
			text += fmt.Sprintf("END %d %d\n", e.ID, e.Time)
		case api.Moved:
			text += fmt.Sprintf("MOVED %d %d %d\n", e.ID, e.Time, e.To)
		}
	}
	return text
}

// line is what the document says of a line, with nothing of the program in it.
func (m *model) line(line string) string {
	x, err := expected(line)
	if err != api.OK {
		return expectedText(0, api.Reply{Err: err})
	}
	return expectedText(x.Kind, m.do(x))
}

// follows holds the answer to a line against the document's.
func follows(t testing.TB, promise string, c *berth.Cluster, m *model, line string) {
	t.Helper()
	if got, want := c.Line(line), m.line(line); got != want {
		t.Fatalf("%s: %+v at %d: Line(%q) = %q, want %q", promise, m.config, m.now, line, got, want)
	}
}

// checkLine goes through the parts, one by one, on a cluster that is like c.
func checkLine(t *testing.T, promise string, c, twin *berth.Cluster, line string) {
	t.Helper()
	x, err := berth.Parse(line)
	reply := api.Reply{Err: err}
	if err == api.OK {
		reply = twin.Do(x)
	}
	if got, want := c.Line(line), expectedText(x.Kind, reply); got != want {
		t.Errorf("%s: Line(%.60q) = %q, want %q", promise, line, got, want)
	}
}

// drawLine is mostly the line of a drawn command, with zeros ahead of its numbers now and then, and at times a spoiled one.
func drawLine(r *rand.Rand, config api.Config, given int) string {
	line := expectedLine(draw(r, config, given))
	switch r.Intn(12) {
	case 0, 1:
		return strings.ReplaceAll(line, " ", " "+strings.Repeat("0", r.Intn(17)))
	case 2:
		at := r.Intn(len(line) + 1)
		return line[:at] + string([]byte{" 0-\nSt\x00\xff"[r.Intn(8)]}) + line[at:]
	case 3:
		return notCommands[r.Intn(len(notCommands))]
	}
	return line
}

func TestLineOfTheExamples(t *testing.T) {
	c := fresh(t, 4, 5, 100, 1000)
	says(t, "P13", c, "SUBMIT 3 10", "OK 1 0", "START 1 0")
	says(t, "P13", c, "SUBMIT 2 5", "OK 2 10")
	says(t, "P13", c, "SUBMIT 1 10", "OK 3 0", "START 3 0")
	says(t, "P13", c, "SUBMIT 1 20", "OK 4 10")
	says(t, "P13", c, "SUBMIT 4 1", "OK 5 30")
	says(t, "P13", c, "SUBMIT 1 1", "ERR FULL")

	says(t, "P13", c, "TICK 4", "OK")
	says(t, "P13", c, "DONE 1", "OK", "MOVED 2 10 4", "MOVED 4 10 4", "MOVED 5 30 24", "START 2 4", "START 4 4")
	says(t, "P13", c, "STAT 1", "OK FINISHED 0 4")
	says(t, "P13", c, "STAT 5", "OK QUEUED 24 25")
	says(t, "P13", c, "QUEUE", "OK 1", "JOB 5 24 4 1")
	says(t, "P13", c, "INFO", "OK 4 0 4")

	says(t, "P13", c, "TICK 6", "OK", "END 2 9", "END 3 10")
	says(t, "P13", c, "DONE 2", "ERR PHASE")
	says(t, "P13", c, "CANCEL 4", "OK", "MOVED 5 24 10", "START 5 10")
	says(t, "P13", c, "TICK 991", "ERR TIME")
	says(t, "P13", c, "STAT 9", "ERR JOB")
	for _, line := range []string{"STAT", "STAT +1", "STAT  1", "stat 1"} {
		says(t, "P13", c, line, "ERR ARG")
	}
	says(t, "P13", c, "STAT 0004", "OK CANCELLED 4 10")
}

// Written out whole, with every byte 10 that the document asks for.
func TestLineAnswersEveryCommand(t *testing.T) {
	c := fresh(t, 2, 10, 20, 300)
	for _, x := range []struct{ line, want string }{
		{"INFO", "OK 0 2 0\n"},
		{"QUEUE", "OK 0\n"},
		{"TICK 0", "OK\n"},
		{"TICK 7", "OK\n"},
		{"SUBMIT 1 20", "OK 1 7\nSTART 1 7\n"},
		{"SUBMIT 2 5", "OK 2 27\n"},
		{"SUBMIT 2 3", "OK 3 32\n"},
		{"SUBMIT 1 9", "OK 4 7\nSTART 4 7\n"},
		{"QUEUE", "OK 2\nJOB 2 27 2 5\nJOB 3 32 2 3\n"},
		{"INFO", "OK 7 0 4\n"},
		{"STAT 3", "OK QUEUED 32 35\n"},
		{"CANCEL 3", "OK\n"},
		{"STAT 3", "OK CANCELLED 7 7\n"},
		{"TICK 10", "OK\nEND 4 16\n"},
		{"SUBMIT 1 20", "OK 5 32\n"},
		{"DONE 1", "OK\nMOVED 2 27 17\nMOVED 5 32 22\nSTART 2 17\n"},
		{"TICK 30", "OK\nEND 2 22\nSTART 5 22\nEND 5 42\n"},
		{"INFO", "OK 47 2 0\n"},
		{"QUEUE", "OK 0\n"},
		{"CANCEL 5", "ERR PHASE\n"},
	} {
		if got := c.Line(x.line); got != x.want {
			t.Errorf("P13: Line(%q) = %q, want %q", x.line, got, x.want)
		}
	}
}

func TestLineTellsEveryPhase(t *testing.T) {
	c := busy(t)
	says(t, "P13", c, "STAT 1", "OK TIMEDOUT 0 10")
	says(t, "P13", c, "STAT 2", "OK FINISHED 10 11")
	says(t, "P13", c, "STAT 3", "OK CANCELLED 10 10")
	says(t, "P13", c, "STAT 4", "OK RUNNING 11 31")
	says(t, "P13", c, "STAT 5", "OK RUNNING 11 41")
	says(t, "P13", c, "STAT 6", "OK QUEUED 31 51")
	says(t, "P13", c, "STAT 7", "OK QUEUED 51 56")
	c.Line("CANCEL 4") // it ran
	says(t, "P13", c, "STAT 4", "OK CANCELLED 11 12")
	says(t, "P13", c, "STAT 6", "OK RUNNING 12 32")
	says(t, "P13", c, "STAT 7", "OK QUEUED 41 46")
}

func TestLineOfAQueue(t *testing.T) {
	c := fresh(t, 64, 30, api.MaxWall, 1000)
	says(t, "P13", c, "QUEUE", "OK 0")
	c.Line("SUBMIT 64 1000000000")
	says(t, "P13", c, "QUEUE", "OK 0")
	c.Line("SUBMIT 64 7")
	says(t, "P13", c, "QUEUE", "OK 1", "JOB 2 1000000000 64 7")
	want := []string{"OK 29", "JOB 2 1000000000 64 7"}
	for id := 3; id <= 30; id++ {
		c.Do(submit(id, id))
	}
	for _, row := range c.Do(queue).Rows[1:] {
		want = append(want, fmt.Sprintf("JOB %d %d %d %d", row.ID, row.Promise, row.ID, row.ID))
	}
	if len(want) != 30 {
		t.Fatalf("P12: %d rows of 29 jobs that wait", len(want)-1)
	}
	says(t, "P13", c, "QUEUE", want...)
}

func TestLineTellsWhatHappened(t *testing.T) {
	for _, x := range []struct {
		line string
		want []string
	}{
		{"CANCEL 4", []string{"OK", "MOVED 6 31 12", "MOVED 7 51 41", "START 6 12"}},
		{"DONE 4", []string{"OK", "MOVED 6 31 12", "MOVED 7 51 41", "START 6 12"}},
		{"DONE 5", []string{"OK", "MOVED 6 31 12", "MOVED 7 51 32", "START 6 12"}},
		{"CANCEL 6", []string{"OK", "MOVED 7 51 41"}},
		{"CANCEL 7", []string{"OK"}},
		{"TICK 18", []string{"OK"}},
		{"TICK 19", []string{"OK", "END 4 31", "START 6 31"}},
		{"TICK 988", []string{"OK", "END 4 31", "START 6 31", "END 5 41", "END 6 51", "START 7 51", "END 7 56"}},
	} {
		says(t, "P13", busy(t), x.line, x.want...)
	}
}

// What moves in a second round is told behind the first one, though its id is lower.
func TestLineKeepsTheOrderOfEvents(t *testing.T) {
	c := fresh(t, 3, 30, 20, 1000)
	for _, line := range []string{"SUBMIT 1 2", "SUBMIT 1 6", "SUBMIT 3 5", "SUBMIT 2 1", "SUBMIT 1 1", "SUBMIT 1 1"} {
		c.Line(line)
	}
	says(t, "P13", c, "TICK 1", "OK", "END 5 1", "START 6 1")
	says(t, "P13", c, "CANCEL 2", "OK", "MOVED 3 6 3")
	says(t, "P13", c, "CANCEL 1", "OK", "MOVED 4 2 1", "MOVED 3 3 2", "START 4 1")
	says(t, "P13", c, "TICK 50", "OK", "END 4 2", "END 6 2", "START 3 2", "END 3 7")
}

func TestLineTellsManyEvents(t *testing.T) {
	c := fresh(t, 30, 30, 30, 1000)
	says(t, "P13", c, "SUBMIT 30 30", "OK 1 0", "START 1 0")
	want := []string{"OK"}
	for id := 2; id <= 30; id++ {
		says(t, "P13", c, "SUBMIT 1 1", fmt.Sprintf("OK %d 30", id))
		want = append(want, fmt.Sprintf("MOVED %d 30 0", id))
	}
	for id := 2; id <= 30; id++ {
		want = append(want, fmt.Sprintf("START %d 0", id))
	}
	says(t, "P13", c, "DONE 1", want...)
	want = []string{"OK"}
	for id := 2; id <= 30; id++ {
		want = append(want, fmt.Sprintf("END %d 1", id))
	}
	says(t, "P13", c, "TICK 1", want...)
}

// Wherever several errors apply, the line tells the one that is named first.
func TestLineTellsEveryErrorByItsName(t *testing.T) {
	c, untouched := busy(t), busy(t)
	for _, x := range []struct{ line, want string }{
		{"", "ERR ARG"},
		{"SUBMIT 0", "ERR ARG"},
		{"SUBMIT 5 x", "ERR ARG"},
		{"CANCEL", "ERR ARG"},
		{"TICK 1000000000000000000", "ERR ARG"},
		{"SUBMIT 0 1", "ERR WIDTH"},
		{"SUBMIT 5 1", "ERR WIDTH"},
		{"SUBMIT 0 0", "ERR WIDTH"},
		{"SUBMIT 999999999999999999 101", "ERR WIDTH"},
		{"SUBMIT 1 0", "ERR WALL"},
		{"SUBMIT 4 101", "ERR WALL"},
		{"SUBMIT 4 999999999999999999", "ERR WALL"},
		{"SUBMIT 1 1", "ERR FULL"},
		{"SUBMIT 4 100", "ERR FULL"},
		{"STAT 0", "ERR JOB"},
		{"STAT 8", "ERR JOB"},
		{"STAT 999999999999999999", "ERR JOB"},
		{"CANCEL 0", "ERR JOB"},
		{"CANCEL 8", "ERR JOB"},
		{"DONE 000", "ERR JOB"},
		{"DONE 8", "ERR JOB"},
		{"CANCEL 1", "ERR PHASE"},
		{"CANCEL 2", "ERR PHASE"},
		{"CANCEL 3", "ERR PHASE"},
		{"DONE 1", "ERR PHASE"},
		{"DONE 2", "ERR PHASE"},
		{"DONE 3", "ERR PHASE"},
		{"DONE 6", "ERR PHASE"},
		{"DONE 07", "ERR PHASE"},
		{"TICK 989", "ERR TIME"},
		{"TICK 999999999999999999", "ERR TIME"},
	} {
		says(t, "P13", c, x.line, x.want)
		sameState(t, "P1", c, untouched, 7)
	}
	for _, line := range []string{"DONE 4", "SUBMIT 1 1", "TICK 988"} {
		checkLine(t, "P1", c, untouched, line)
	}
	sameState(t, "P1", c, untouched, 8)
}

func TestLineRefusesWhatParseRefuses(t *testing.T) {
	c, untouched := busy(t), busy(t)
	for _, line := range notCommands {
		says(t, "P13", c, line, "ERR ARG")
	}
	for _, size := range []int{api.MaxLine - 1, api.MaxLine, api.MaxLine + 1, 1 << 20} {
		says(t, "P13", c, "TICK "+strings.Repeat("0", size-6)+"1", "ERR ARG")
		says(t, "P13", c, "DONE 4"+strings.Repeat(" ", size-6), "ERR ARG")
		says(t, "P13", c, "INFO"+strings.Repeat("\n", size-4), "ERR ARG")
		says(t, "P13", c, strings.Repeat("x", size), "ERR ARG")
	}
	sameState(t, "P13", c, untouched, 7)
}

// One byte changed, dropped or put in, at every place: whatever comes of it, Line does just what the parts do.
func TestLineOfNearlyCommands(t *testing.T) {
	c, twin := busy(t), busy(t)
	bytes := []byte("\x00\t\n +-0123456789:/aS\x7f\x80\xff")
	for _, line := range []string{"SUBMIT 3 10", "CANCEL 7", "DONE 5", "TICK 12", "STAT 4", "QUEUE", "INFO"} {
		for i := range line {
			checkLine(t, "P13", c, twin, line[:i]+line[i+1:])
			for _, b := range bytes {
				checkLine(t, "P13", c, twin, line[:i]+string([]byte{b})+line[i:])
				checkLine(t, "P13", c, twin, line[:i]+string([]byte{b})+line[i+1:])
			}
		}
		for _, b := range bytes {
			checkLine(t, "P13", c, twin, line+string([]byte{b}))
		}
	}
}

func TestDrawnLinesAreDoneAsTheDocumentSays(t *testing.T) {
	r := rand.New(rand.NewSource(11))
	for range 200 {
		config := api.Config{Nodes: 1 + r.Intn(6), Jobs: 1 + r.Intn(api.MaxJobs), Wall: 1 + r.Intn(12), End: r.Intn(300)}
		m := model{config: config}
		c := fresh(t, config.Nodes, config.Jobs, config.Wall, config.End)
		for range 100 {
			follows(t, "P13", c, &m, drawLine(r, config, len(m.jobs)))
		}
	}
}

// Line and Do, in any order, are about one and the same cluster; and Line is Parse, and then Do.
func TestLinesAndCommandsWorkOnOneCluster(t *testing.T) {
	r := rand.New(rand.NewSource(12))
	for range 100 {
		config := api.Config{Nodes: 1 + r.Intn(5), Jobs: 10, Wall: 12, End: 1000}
		c := fresh(t, config.Nodes, config.Jobs, config.Wall, config.End)
		twin := fresh(t, config.Nodes, config.Jobs, config.Wall, config.End)
		given := 0
		for range 100 {
			if r.Intn(2) == 0 {
				x := draw(r, config, given)
				does(t, "P13", c, x, twin.Do(x))
			} else {
				checkLine(t, "P13", c, twin, drawLine(r, config, given))
			}
			for twin.Do(stat(given+1)).Err == api.OK {
				given++
			}
		}
		sameState(t, "P13", c, twin, given)
	}
}

func TestP1NoLinePanics(t *testing.T) {
	for _, config := range []api.Config{{Nodes: 1, Jobs: 1, Wall: 1}, {Nodes: 64, Jobs: 30, Wall: api.MaxWall, End: api.MaxTime - 30*api.MaxWall}} {
		c := fresh(t, config.Nodes, config.Jobs, config.Wall, config.End)
		twin := fresh(t, config.Nodes, config.Jobs, config.Wall, config.End)
		for _, word := range []string{"SUBMIT", "CANCEL", "DONE", "TICK", "STAT", "QUEUE", "INFO"} {
			for _, n := range []string{"0", "1", "2", "64", "65", "1000000000", "1000000001", "999999999999999999", "9223372036854775807", "-9223372036854775808"} {
				for _, line := range []string{word, word + " " + n, word + " 1 " + n, word + " " + n + " 1", word + " " + n + " " + n} {
					checkLine(t, "P1", c, twin, line)
				}
			}
		}
		for _, line := range oddTexts() {
			checkLine(t, "P1", c, twin, line)
		}
	}
}

func TestP2AnsweredTextsAreNewMemory(t *testing.T) {
	c := busy(t)
	for _, line := range []string{"TICK 0", "INFO", "QUEUE", "STAT 1", "STAT 7", "", "SUBMIT 0 0", "SUBMIT 1 0", "SUBMIT 1 1", "STAT 0", "DONE 1", "TICK 989"} {
		first, second := c.Line(line), c.Line(line)
		if first != second {
			t.Errorf("P2: Line(%q) = %q, and then %q", line, first, second)
		}
		if unsafe.StringData(first) == unsafe.StringData(second) {
			t.Errorf("P2: two answers of Line(%q) are one piece of memory", line)
		}
	}
}

// Each side submits by lines and ends its jobs by commands, or the other way round.
func TestP2LinesFromSeveralSides(t *testing.T) {
	const sides, rounds = 16, 200
	c := fresh(t, 64, 30, 1, 1000)
	var all sync.WaitGroup
	ids := make([][]int, sides)
	for i := range sides {
		all.Go(func() {
			for range rounds {
				x, text := submit(1, 1), ""
				if i%2 == 0 {
					text = c.Line(berth.Render(x))
				} else {
					text = expectedText(x.Kind, c.Do(x))
				}
				id := 0
				if n, _ := fmt.Sscanf(text, "OK %d 0\nSTART %d 0\n", &id, &id); n != 2 {
					t.Errorf("P2: a job beside at most 15 others was answered %q", text)
					return
				}
				ids[i] = append(ids[i], id)
				if got := c.Line(fmt.Sprintf("STAT %d", id)); got != "OK RUNNING 0 1\n" {
					t.Errorf("P2: job %d, just started, is %q", id, got)
				}
				if i%2 == 1 {
					text = c.Line(berth.Render(done(id)))
				} else {
					text = expectedText(api.Done, c.Do(done(id)))
				}
				if text != "OK\n" {
					t.Errorf("P2: the end of job %d was answered %q", id, text)
				}
			}
		})
	}
	all.Wait()
	says(t, "P2", c, "INFO", "OK 0 64 0")
	times := make([]int, sides*rounds+1)
	for _, some := range ids {
		for _, id := range some {
			times[id]++
		}
	}
	for id, n := range times {
		if id > 0 && n != 1 {
			t.Errorf("P2: the id %d was given %d times", id, n)
		}
	}
}

// The greatest numbers that an answer can have.
func TestLineTellsTimesUpToTheBound(t *testing.T) {
	const end = api.MaxTime - 2
	c := fresh(t, 1, 2, 1, end)
	for range end / most {
		says(t, "P13", c, "TICK 999999999999999999", "OK")
	}
	says(t, "P13", c, fmt.Sprintf("TICK %d", end%most), "OK")
	says(t, "P13", c, "INFO", "OK 4611686018427387902 1 0")
	says(t, "P13", c, "SUBMIT 1 1", "OK 1 4611686018427387902", "START 1 4611686018427387902")
	says(t, "P13", c, "SUBMIT 1 1", "OK 2 4611686018427387903")
	says(t, "P13", c, "STAT 1", "OK RUNNING 4611686018427387902 4611686018427387903")
	says(t, "P13", c, "STAT 2", "OK QUEUED 4611686018427387903 4611686018427387904")
	says(t, "P13", c, "QUEUE", "OK 1", "JOB 2 4611686018427387903 1 1")
	says(t, "P13", c, "TICK 1", "ERR TIME")
	says(t, "P13", c, "TICK 999999999999999999", "ERR TIME")
	says(t, "P13", c, "DONE 1", "OK", "MOVED 2 4611686018427387903 4611686018427387902", "START 2 4611686018427387902")
	says(t, "P13", c, "STAT 1", "OK FINISHED 4611686018427387902 4611686018427387902")
	says(t, "P13", c, "CANCEL 2", "OK")
	says(t, "P13", c, "STAT 2", "OK CANCELLED 4611686018427387902 4611686018427387902")
}

func TestLineTellsLateEnds(t *testing.T) {
	const end = api.MaxTime - api.MaxJobs*api.MaxWall
	c := fresh(t, api.MaxNodes, api.MaxJobs, api.MaxWall, end)
	for range end / most {
		says(t, "P13", c, "TICK 999999999999999999", "OK")
	}
	says(t, "P13", c, fmt.Sprintf("TICK %d", end%most-1), "OK")
	now := end - 1
	says(t, "P13", c, "SUBMIT 64 1", fmt.Sprintf("OK 1 %d", now), fmt.Sprintf("START 1 %d", now))
	says(t, "P13", c, "SUBMIT 64 1000000000", fmt.Sprintf("OK 2 %d", end))
	says(t, "P13", c, "TICK 1", "OK", fmt.Sprintf("END 1 %d", end), fmt.Sprintf("START 2 %d", end))
	says(t, "P13", c, "STAT 1", fmt.Sprintf("OK TIMEDOUT %d %d", now, end))
	says(t, "P13", c, "STAT 2", fmt.Sprintf("OK RUNNING %d %d", end, end+api.MaxWall))
}

func FuzzLine(f *testing.F) {
	f.Add(uint8(4), uint8(5), "SUBMIT 3 10\nSUBMIT 2 5\nSUBMIT 1 10\nSUBMIT 1 20\nSUBMIT 4 1\nTICK 4\nDONE 1\nSTAT 1\nQUEUE\nINFO\nTICK 6\nCANCEL 4\nSTAT 0004")
	f.Add(uint8(2), uint8(30), "SUBMIT 1 1\n\nSTAT +1\nTICK 501\nSUBMIT 0 0\nSUBMIT 1 21\nDONE 9\nDONE 1\nDONE 1")
	f.Fuzz(func(t *testing.T, nodes, jobs uint8, script string) {
		config := api.Config{Nodes: 1 + int(nodes)%8, Jobs: 1 + int(jobs)%api.MaxJobs, Wall: 20, End: 500}
		m := model{config: config}
		c := fresh(t, config.Nodes, config.Jobs, config.Wall, config.End)
		for line := range strings.SplitSeq(script, "\n") {
			follows(t, "P13", c, &m, line)
		}
	})
}
