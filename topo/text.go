package topo

import (
	"strconv"
	"strings"
)

// The words that lines begin with.
const (
	nodesWord  = "nodes"
	framesWord = "frames"
	cpusWord   = "cpus"
	distWord   = "dist"
)

// maxDigits is how many digits a number of a text may have.
const maxDigits = 4

// reader goes through a text, line by line.
type reader struct {
	rest string // behind the lines that were read
	line int    // the line that was read last, or tried
}

// read is what a text tells, be it a machine or not, and 0; or the line that is wrong, missing or too many.
func read(text string) (Topo, int) {
	r := reader{rest: text}
	var t Topo
	var ok bool
	if t.Nodes, ok = r.number(nodesWord); !ok {
		return Topo{}, r.line
	}
	if t.Frames, ok = r.number(framesWord); !ok {
		return Topo{}, r.line
	}
	if t.CPUs, ok = r.numbers(cpusWord); !ok {
		return Topo{}, r.line
	}
	for range t.Nodes {
		row, ok := r.numbers(distWord)
		if !ok {
			return Topo{}, r.line
		}
		t.Dist = append(t.Dist, row)
	}
	if r.rest != "" {
		return Topo{}, r.line + 1
	}
	return t, 0
}

// numbers reads a line of a word and its numbers. A line without a line end is none.
func (r *reader) numbers(word string) ([]int, bool) {
	r.line++
	line, rest, ended := strings.Cut(r.rest, "\n")
	if !ended {
		return nil, false
	}
	r.rest = rest
	numbers, ok := strings.CutPrefix(line, word+" ")
	if !ok {
		return nil, false
	}
	return parseNumbers(numbers)
}

// number reads a line of a word and just one number.
func (r *reader) number(word string) (int, bool) {
	numbers, ok := r.numbers(word)
	if !ok || len(numbers) != 1 {
		return 0, false
	}
	return numbers[0], true
}

// parseNumbers reads numbers, one at least, parted by one blank each.
func parseNumbers(text string) ([]int, bool) {
	var numbers []int
	rest, more := text, true
	for more {
		var digits string
		digits, rest, more = strings.Cut(rest, " ")
		n, ok := parseNumber(digits)
		if !ok {
			return nil, false
		}
		numbers = append(numbers, n)
	}
	return numbers, true
}

// parseNumber reads digits, without a nought ahead: each number has one text alone.
func parseNumber(digits string) (int, bool) {
	if digits == "" || len(digits) > maxDigits || digits[0] == '0' && len(digits) > 1 {
		return 0, false
	}
	n := 0
	for i := range len(digits) {
		if digits[i] < '0' || digits[i] > '9' {
			return 0, false
		}
		n = n*10 + int(digits[i]-'0')
	}
	return n, true
}

// line is a word and numbers as a line, with its line end.
func line(word string, numbers ...int) string {
	words := []string{word}
	for _, n := range numbers {
		words = append(words, strconv.Itoa(n))
	}
	return strings.Join(words, " ") + "\n"
}
