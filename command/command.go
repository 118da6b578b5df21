// Package command: commands, and the lines of text that say them.
package command

import (
	"strconv"
	"strings"

	"berth/api"
)

// 18 digits always fit an int, so that no number read here can wrap.
const (
	maxDigits = 18
	maxNumber = 999999999999999999
)

// shape is how the commands of one kind are written.
type shape struct {
	kind    int
	word    string
	numbers int
}

var shapes = [...]shape{
	{api.Submit, "SUBMIT", 2},
	{api.Cancel, "CANCEL", 1},
	{api.Done, "DONE", 1},
	{api.Tick, "TICK", 1},
	{api.Stat, "STAT", 1},
	{api.Queue, "QUEUE", 0},
	{api.Info, "INFO", 0},
}

// Read makes a command of a line (P3).
func Read(line string) (api.Command, error) {
	// Asked first, so that a huge line is never split.
	if len(line) > api.MaxLine {
		return api.Command{}, refuse("length")
	}
	fields := strings.Split(line, " ")
	s, err := shapeOfWord(fields[0])
	if err != nil {
		return api.Command{}, err
	}
	numbers, err := s.readNumbers(fields[1:])
	if err != nil {
		return api.Command{}, about(s.word, err)
	}
	return api.Command{Kind: s.kind, A: numbers[0], B: numbers[1]}, nil
}

// Write makes the line of a command (P4).
func Write(c api.Command) (string, error) {
	s, err := shapeOfKind(c.Kind)
	if err != nil {
		return "", err
	}
	line := []byte(s.word)
	for i, n := range [...]int{c.A, c.B} {
		if !s.allows(i, n) {
			return "", about(s.word, refuse("number"))
		}
		if i < s.numbers {
			line = append(line, ' ')
			line = strconv.AppendInt(line, int64(n), 10)
		}
	}
	return string(line), nil
}

func shapeOfWord(word string) (shape, error) {
	for _, s := range shapes {
		if s.word == word {
			return s, nil
		}
	}
	return shape{}, refuse("word")
}

func shapeOfKind(kind int) (shape, error) {
	for _, s := range shapes {
		if s.kind == kind {
			return s, nil
		}
	}
	return shape{}, refuse("kind")
}

// allows tells whether n may be the command's number with the index i.
func (s shape) allows(i, n int) bool {
	if i >= s.numbers {
		return n == 0
	}
	return n >= 0 && n <= maxNumber
}

// readNumbers leaves 0 where the command has no number.
func (s shape) readNumbers(fields []string) ([2]int, error) {
	var numbers [2]int
	if len(fields) != s.numbers {
		return numbers, refuse("count of numbers")
	}
	for i, field := range fields {
		n, err := readNumber(field)
		if err != nil {
			return [2]int{}, err
		}
		numbers[i] = n
	}
	return numbers, nil
}

// readNumber takes no help from strconv, which would let signs pass.
func readNumber(digits string) (int, error) {
	if len(digits) < 1 || len(digits) > maxDigits {
		return 0, refuse("count of digits")
	}
	n := 0
	for i := range len(digits) {
		d := digits[i]
		if d < '0' || d > '9' {
			return 0, refuse("digit")
		}
		n = n*10 + int(d-'0')
	}
	return n, nil
}
