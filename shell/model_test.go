package shell_test

import (
	"fmt"
	"regexp"
	"strconv"
	"strings"
	"testing"

	"messuage/api"
	"messuage/heap"
	"messuage/nodeset"
	"messuage/policy"
	"messuage/report"
	"messuage/script"
	"messuage/shell"
	"messuage/topo"
)

// reader does lines by the words of the chapter: each row of its table is a pattern.
type reader struct {
	s *script.System
}

func newReader(t *testing.T) *reader {
	t.Helper()
	x, _, e := topo.Parse("nodes 2\nframes 16\ncpus 0 0 1 1\ndist 10 20\ndist 20 10\n")
	if e != api.OK {
		t.Fatal(e)
	}
	s, e := script.New(x, heap.Marks{Min: 1, Low: 4, High: 6})
	if e != api.OK {
		t.Fatal(e)
	}
	return &reader{s}
}

const number = `(0|[1-9][0-9]{0,3})`

// row is a line of the table: a pattern, the step's kind, and what its groups are.
type row struct {
	pattern *regexp.Regexp
	kind    int
	groups  string
}

func rows() []row {
	var list []row
	for _, c := range []struct {
		pattern string
		kind    int
		groups  string
	}{
		{"malloc # #", script.Malloc, "CN"}, {"free # #", script.Free, "CO"}, {"read # # # #", script.Read, "COAN"},
		{"write # # # ([^ ]*)", script.Write, "COAW"}, {"policy # ([^ ]*)", script.Policy, "CP"}, {"mbind # ([^ ]*)", script.MBind, "OP"},
		{"migrate # #", script.Migrate, "ON"}, {"force # #", script.Migrate, "ON"}, {"query #", script.Query, "O"},
		{"drain #", script.Drain, "N"}, {"flush #", script.Flush, "C"}, {"release", script.Release, ""}, {"tick #", script.Tick, "N"},
	} {
		list = append(list, row{regexp.MustCompile(`(?s)\A` + strings.ReplaceAll(c.pattern, "#", number) + `\z`), c.kind, c.groups})
	}
	return list
}

func (r *reader) run(text string) string {
	told, table := "", rows()
	for i, line := range strings.Split(text, "\n") {
		if i < 200 && line != "" && line[0] != '#' {
			told += r.line(table, line)
		}
	}
	return told
}

func (r *reader) line(table []row, line string) string {
	switch line {
	case "nodes":
		return report.Nodes(r.s.Machine())
	case "objects":
		return report.Objects(r.s.Machine())
	case "spans":
		return report.Spans(r.s.Machine())
	}
	for _, row := range table {
		groups := row.pattern.FindStringSubmatch(line)
		if groups == nil {
			continue
		}
		x := script.Step{Kind: row.kind, Told: strings.HasPrefix(line, "force")}
		for i, group := range row.groups {
			if !set(&x, group, groups[i+1]) {
				return "what?\n"
			}
		}
		word, _, _ := strings.Cut(line, " ")
		return comes(word, row.kind, r.s.Do(x)) + "\n"
	}
	return "what?\n"
}

// set lays the word of a group into a step; false if it is a policy that isn't one.
func set(x *script.Step, group rune, word string) bool {
	n, _ := strconv.Atoi(word)
	switch group {
	case 'C':
		x.CPU = n
	case 'O':
		x.Obj = n
	case 'A':
		x.At = n
	case 'N':
		x.N = n
	case 'W':
		x.Bytes = []byte(word)
	case 'P':
		return setPolicy(x, word)
	}
	return true
}

func setPolicy(x *script.Step, word string) bool {
	if word == "default" {
		return true
	}
	if groups := regexp.MustCompile(`\Aprefer:` + number + `\z`).FindStringSubmatch(word); groups != nil {
		n, _ := strconv.Atoi(groups[1])
		x.Policy = policy.Policy{Mode: policy.Preferred, Node: n}
		return true
	}
	groups := regexp.MustCompile(`(?s)\A(bind|interleave):(.*)\z`).FindStringSubmatch(word)
	if groups == nil {
		return false
	}
	s, e := nodeset.Parse(groups[2])
	x.Policy = policy.Policy{Mode: map[string]int{"bind": policy.Bind, "interleave": policy.Interleave}[groups[1]], Set: s}
	return e == api.OK
}

// comes is what comes of a step.
func comes(word string, kind int, r script.Result) string {
	if r.Err != api.OK {
		return fmt.Sprintf("error %d", r.Err)
	}
	switch word {
	case "malloc":
		return fmt.Sprintf("object %d", r.N)
	case "read":
		return fmt.Sprintf("bytes %x", r.Bytes)
	case "migrate", "force":
		return fmt.Sprintf("moved %d", r.N)
	case "query":
		return strings.ReplaceAll(strings.TrimSuffix(fmt.Sprintln(append([]any{"nodes"}, all(r.Nodes)...)...), "\n"), "-1", "-")
	case "drain", "flush", "release", "tick":
		return fmt.Sprintf("%s %d", word, r.N)
	}
	return "ok"
}

func all(list []int) (any []any) {
	for _, n := range list {
		any = append(any, n)
	}
	return any
}

// dice makes lines, most of them such as are done, some that aren't, and some that are none.
type dice struct {
	seed    uint32
	objects int // how many were asked for
}

func (d *dice) next(n int) int {
	d.seed = d.seed*1664525 + 1013904223
	return int(d.seed>>8) % n
}

func (d *dice) of(words ...string) string {
	return words[d.next(len(words))]
}

func (d *dice) cpu() string {
	if d.next(40) == 0 {
		return d.of("4", "9", "9999", "00", "-1", "10000", "", "a")
	}
	return strconv.Itoa(d.next(4))
}

func (d *dice) obj() string {
	if d.next(40) == 0 {
		return d.of("99", "9999", "00", "-1", "10000", "", "a")
	}
	return strconv.Itoa(max(0, d.objects-1-d.next(8)))
}

func (d *dice) node() string {
	if d.next(30) == 0 {
		return d.of("2", "9", "9999", "00", "", "a")
	}
	return strconv.Itoa(d.next(2))
}

func (d *dice) policy() string {
	if d.next(10) == 0 {
		return d.of("", "bind", "bind:", "bind:none", "bind:2", "bind:9", "prefer:2", "prefer:01", "interleave:0-", "interleave:none", "default:")
	}
	return d.of("default", "bind:0", "bind:1", "bind:0-1", "interleave:0,1", "interleave:1", "prefer:0", "prefer:1")
}

func (d *dice) line() string {
	switch d.next(20) {
	case 0, 1, 2:
		d.objects++
		return "malloc " + d.cpu() + " " + strconv.Itoa(1+d.next(64))
	case 3, 4:
		d.objects++
		return "malloc " + d.cpu() + " " + strconv.Itoa(65+d.next(400))
	case 5, 6:
		return "free " + d.cpu() + " " + d.obj()
	case 7:
		return "read " + d.cpu() + " " + d.obj() + " " + strconv.Itoa(d.next(100)) + " " + strconv.Itoa(d.next(60))
	case 8, 9, 10:
		return "write " + d.cpu() + " " + d.obj() + " " + strconv.Itoa(d.next(200)) + " " + strings.Repeat(string(rune('a'+d.next(26))), d.next(80))
	case 11:
		return "policy " + d.cpu() + " " + d.policy()
	case 12:
		return "mbind " + d.obj() + " " + d.policy()
	case 13:
		return d.of("migrate ", "force ") + d.obj() + " " + d.node()
	case 14:
		return "query " + d.obj()
	case 15:
		return "drain " + d.node()
	case 16:
		return d.of("flush "+d.cpu(), "release")
	case 17:
		return "tick " + strconv.Itoa(d.next(12))
	case 18:
		return d.of("nodes", "objects", "spans")
	}
	return d.wrong()
}

// wrong is a line that may be none: one sign of a line is gone, there twice, or another one.
func (d *dice) wrong() string {
	line := d.of("", "#", " ", "foo", "malloc 0 8", "free 0 0", "read 0 0 0 1", "write 0 0 0 x", "policy 0 bind:0", "mbind 0 default", "migrate 0 0",
		"force 0 1", "query 0", "drain 1", "flush 3", "release", "tick 5", "nodes", "objects", "spans")
	if line == "" {
		return line
	}
	at := d.next(len(line))
	switch d.next(4) {
	case 0:
		return line[:at] + line[at+1:]
	case 1:
		return line[:at+1] + line[at:]
	case 2:
		return line[:at] + d.of(" ", "0", "1", "#", "-", "\t", ":", "\x00", "\xff") + line[at+1:]
	}
	return d.of(" ", "", "#") + line + d.of(" ", "", "0")
}

// P25.1: many texts, against the words of the chapter.
func TestManyTexts(t *testing.T) {
	counts := map[string]int{}
	for i := range 1500 {
		d := &dice{seed: uint32(i)}
		var lines []string
		for range 1 + d.next(230) {
			lines = append(lines, d.line())
		}
		text := strings.Join(lines, "\n") + d.of("", "\n")
		got, want := shell.Run(text), newReader(t).run(text)
		if got != want {
			t.Fatalf("Run(%q) = %q, not %q", text, got, want)
		}
		for line := range strings.Lines(got) {
			word, rest, _ := strings.Cut(strings.TrimSuffix(line, "\n"), " ")
			if word == "error" || word == "tick" || word == "moved" {
				word += " " + rest
			}
			counts[word]++
		}
	}
	// All that can come came.
	for _, word := range []string{
		"object", "ok", "bytes", "nodes", "drain", "flush", "release", "tick 0", "tick 1", "tick 2", "moved 0", "moved 1", "moved 2", "what?", "node", "page",
		"error 1", "error 5", "error 6", "error 7", "error 10", "error 11", "error 13", "error 15",
	} {
		if counts[word] == 0 {
			t.Errorf("%q never came: %v", word, counts)
		}
	}
}

// P25.1: the answer hangs on the text alone, and of a longer text of up to 200 lines the answer goes on with more.
func TestAnswersGoOn(t *testing.T) {
	for i := range 60 {
		d := &dice{seed: uint32(1000 + i)}
		text, told := "", ""
		for range 40 {
			text += d.line() + "\n"
			now := shell.Run(text)
			if !strings.HasPrefix(now, told) || shell.Run(text) != now {
				t.Fatalf("Run(%q) = %q, behind %q", text, now, told)
			}
			told = now
		}
	}
}
