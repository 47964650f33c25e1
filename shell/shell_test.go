package shell_test

import (
	"fmt"
	"slices"
	"strings"
	"testing"

	"messuage/shell"
)

// text is lines, each with a line end.
func text(lines ...string) string {
	all := ""
	for _, line := range lines {
		all += line + "\n"
	}
	return all
}

// runs has the shell do a text, and compares what comes with lines.
func runs(t *testing.T, in string, want ...string) {
	t.Helper()
	if got := shell.Run(in); got != text(want...) {
		t.Errorf("Run(%q) = %q, not %q", in, got, text(want...))
	}
}

// talk is lines and what comes of each, "" if nothing comes.
type talk []struct{ line, told string }

// holds does all lines of a talk in one text, with and without a last line end.
func (l talk) holds(t *testing.T) {
	t.Helper()
	var in, want []string
	for _, x := range l {
		in = append(in, x.line)
		if x.told != "" {
			want = append(want, x.told)
		}
	}
	runs(t, text(in...), want...)
	runs(t, strings.Join(in, "\n"), want...)
}

// unknown has the shell do lines that are none, each in a text of its own and all in one, behind an object.
func unknown(t *testing.T, lines ...string) {
	t.Helper()
	for _, line := range lines {
		runs(t, "malloc 0 100\n"+line+"\nwrite 0 0 0 x\n", "object 0", "what?", "ok")
		runs(t, line, "what?")
	}
	runs(t, strings.Join(lines, "\n"), slices.Repeat([]string{"what?"}, len(lines))...)
}

// P25.1: the document's example.
func TestExample(t *testing.T) {
	runs(t, "malloc 0 8\nwrite 0 0 0 ab\nread 1 0 0 3\n", "object 0", "ok", "bytes 616200")
}

// P25.1: nothing comes of nothing, of empty lines, and of those that begin with "#"; a blank ahead makes words of them.
func TestLinesOfNothing(t *testing.T) {
	for _, in := range []string{"", "\n", "\n\n\n", "#", "# malloc 0 8", "#\n\n##\n#malloc 0 8\n", "#\x00\xff\n"} {
		runs(t, in)
	}
	runs(t, "malloc 0 8\n\n#free 0 0\n# \nread 0 0 0 1\n", "object 0", "bytes 00")
	unknown(t, " ", "  ", " #", "\t", "\t#", "\r", "\r#", "malloc 0 8#", "release #", "release#", "\x00", "\xff", "\u00a0", "ö")
}

// P25.1: a last line needs no end, and an end doesn't make one more line; only 0A is one.
func TestLineEnds(t *testing.T) {
	runs(t, "malloc 0 8", "object 0")
	runs(t, "malloc 0 8\nmalloc 0 8", "object 0", "object 1")
	runs(t, "malloc 0 8\n\nmalloc 0 8\n\n", "object 0", "object 1")
	runs(t, "malloc 0 8\r\nmalloc 0 8\r\n", "what?", "what?")
	runs(t, "release\r\nrelease\n\rrelease\n\r", "what?", "release 0", "what?", "what?")
	runs(t, "release\vrelease", "what?")
	runs(t, "release\u2028release\u0085release", "what?")
	runs(t, "malloc 0 8\nwrite 0 0 0 a\rb\nread 0 0 0 4\n", "object 0", "ok", "bytes 610d6200")
}

// P25.1: the first 200 lines are done, those of nothing counted with the others.
func TestTwoHundredLines(t *testing.T) {
	for _, n := range []int{1, 199, 200, 201, 202, 1000} {
		for _, line := range []string{"release", "foo", "malloc 9 9"} {
			told := map[string]string{"release": "release 0", "foo": "what?", "malloc 9 9": "error 11"}[line]
			want := slices.Repeat([]string{told}, min(n, 200))
			runs(t, strings.Repeat(line+"\n", n), want...)
			runs(t, strings.TrimSuffix(strings.Repeat(line+"\n", n), "\n"), want...)
		}
	}
	for _, line := range []string{"\n", "#\n", "#tick\n"} {
		runs(t, strings.Repeat(line, 199)+"release", "release 0")
		runs(t, strings.Repeat(line, 199)+"release\n", "release 0")
		runs(t, strings.Repeat(line, 199)+"release\nrelease\n", "release 0")
		runs(t, strings.Repeat(line, 200)+"release\n")
		runs(t, strings.Repeat(line, 200)+"release")
		runs(t, strings.Repeat(line, 5000)+"release\n")
	}
	// The step of a line that isn't done isn't, either.
	runs(t, strings.Repeat("\n", 198)+"malloc 0 8\nobjects\nmalloc 0 8\nobjects\n", "object 0", "64: 8 bytes on 0")
}

// P25.1: words are parted by one blank each; another sign doesn't part them, and more blanks make empty words.
func TestWords(t *testing.T) {
	unknown(t,
		"malloc", "malloc 0", "malloc 0 8 0", "malloc 0 8 ", " malloc 0 8", "malloc  0 8", "malloc 0  8", "malloc 0 8  ", "malloc\t0\t8", "malloc 0\t8",
		"free", "free 0", "free 0 0 0", "free 0 0 ", "free 0 ", "free  0",
		"read 0 0 0", "read 0 0 0 1 1", "read 0 0 0 ", "read 0 0  1", "read",
		"write 0 0 0", "write 0 0 0 a b", "write 0 0 0 a ", "write 0 0 0  a", "write 0 0 0  ", "write", "write ",
		"policy 0", "policy 0 default ", "policy 0 default 0", "policy", "policy default", "policy  default",
		"mbind 0", "mbind 0 default ", "mbind 0 0 default", "mbind", "mbind default",
		"migrate 0", "migrate 0 0 0", "migrate", "migrate 0 ", "force 0", "force 0 0 0", "force", "force  0",
		"query", "query ", "query 0 ", "query 0 0", " query 0",
		"drain", "drain ", "drain 0 ", "drain 0 0", "flush", "flush ", "flush 0 0", "tick", "tick ", "tick 0 0", "tick 0 ",
		"release ", " release", "release 0", "nodes ", " nodes", "nodes 0", "objects ", "objects 0", " objects", "spans ", "spans 0", " spans",
	)
	unknown(t, "foo", "Malloc 0 8", "MALLOC 0 8", "mallocs 0 8", "mallo 0 8", "what?", "ok", "node", "nodeset", "object", "span", "touch 0", "0", "0 0", "told 0 1", "quit", "help")
}

// P25.1: an empty last word is a word: Write takes it.
func TestEmptyWord(t *testing.T) {
	talk{
		{"malloc 0 100", "object 0"},
		{"write 0 0 0 ", "ok"},
		{"write 0 0 100 ", "ok"},
		{"write 0 0 101 ", "error 7"},
		{"query 0", "nodes - -"},
		{"read 0 0 0 0", "bytes "},
	}.holds(t)
}

// P25.1: a number is one to four digits, without a nought ahead.
func TestNumbers(t *testing.T) {
	none := []string{
		"", "00", "01", "000", "0000", "00000", "0001", "10000", "12345", "99999", "00008", "-1", "-0", "+1", "+0", "1.", "1.0", "1e1", "0x1", "0b1", "1_0",
		"a", "1a", "a1", "/", ":", "1/", "1:", "١", "１", "\x001", "1\x00", "18446744073709551616", "4294967296", "9223372036854775808", "1,0", "#", "#1", "default",
	}
	for _, word := range none {
		unknown(t,
			"malloc "+word+" 8", "malloc 0 "+word, "free "+word+" 0", "free 0 "+word,
			"read "+word+" 0 0 1", "read 0 "+word+" 0 1", "read 0 0 "+word+" 1", "read 0 0 0 "+word,
			"write "+word+" 0 0 a", "write 0 "+word+" 0 a", "write 0 0 "+word+" a",
			"policy "+word+" default", "mbind "+word+" default", "migrate "+word+" 0", "migrate 0 "+word, "force "+word+" 0", "force 0 "+word,
			"query "+word, "drain "+word, "flush "+word, "tick "+word, "policy 0 prefer:"+word, "mbind 0 prefer:"+word,
		)
	}
	talk{
		{"malloc 0 1024", "object 0"},
		{"malloc 0 1025", "error 8"},
		{"malloc 0 9999", "error 8"},
		{"malloc 0 0", "error 8"},
		{"malloc 9999 8", "error 11"},
		{"read 0 0 1023 1", "bytes 00"},
		{"read 0 0 9999 0", "error 7"},
		{"read 0 0 0 9999", "error 7"},
		{"read 0 9999 0 0", "error 13"},
		{"tick 9999", "tick 0"},
		{"tick 1000", "tick 0"},
		{"drain 9999", "error 10"},
		{"flush 1000", "error 11"},
		{"policy 0 prefer:9999", "error 10"},
		{"policy 0 prefer:1000", "error 10"},
	}.holds(t)
}

// P25.1: the system: two nodes of 16 frames, two CPUs on each, so far from each other, and the marks.
func TestSystem(t *testing.T) {
	zero := "; hit 0, miss 0, foreign 0, local 0, other 0, interleave 0"
	runs(t, "nodes\n", "node 0: 16 free, 0 spans, 0 pages"+zero, "node 1: 16 free, 0 spans, 0 pages"+zero)
	runs(t, "objects\nspans\n")
	var in, want []string
	for cpu := range 4 {
		in, want = append(in, fmt.Sprintf("malloc %d 65\nwrite %d %d 0 x\nquery %d", cpu, cpu, cpu, cpu)), append(want, fmt.Sprint("object ", cpu), "ok", fmt.Sprintf("nodes %d -", cpu/2))
	}
	runs(t, strings.Join(append(in, "malloc 4 65", "drain 1", "drain 2"), "\n"), append(want, "error 11", "drain 0", "error 10")...)
}

// P25.1: Min, Low and High: 15 of 16 frames are given, fewer than 4 free ones are poor, more than 6 rich.
func TestMarks(t *testing.T) {
	fill := func(cpu, obj, pages int) (lines, told []string) {
		for page := range pages {
			lines, told = append(lines, fmt.Sprintf("write %d %d %d x", cpu, obj, 64*page)), append(told, "ok")
		}
		return lines, told
	}
	full, oks := fill(0, 0, 16)
	oks[15] = "error 5"
	lines := append([]string{"malloc 0 1024", "policy 0 bind:0"}, full...)
	runs(t, text(lines...), append([]string{"object 0", "ok"}, oks...)...)
	// Of 15 pages 3 move, till 4 frames are free.
	runs(t, text(append(lines, "tick 1", "tick 9", "query 0")...),
		append(append([]string{"object 0", "ok"}, oks...), "tick 1", "tick 2", "nodes 1 1 1 0 0 0 0 0 0 0 0 0 0 0 0 -")...)
	// A node of 6 free frames isn't rich, one of 7 is.
	for _, c := range []struct {
		pages int
		moved string
	}{{10, "tick 0"}, {9, "tick 1"}} {
		other, told := fill(2, 1, c.pages)
		in := append(slices.Clone(lines), "malloc 2 1024", "policy 2 bind:1")
		want := append([]string{"object 0", "ok"}, oks...)
		runs(t, text(append(append(in, other...), "tick 5")...), append(append(append(want, "object 1", "ok"), told...), c.moved)...)
	}
	// 4 free frames aren't poor.
	less, told := fill(0, 0, 12)
	runs(t, text(append(append([]string{"malloc 0 1024"}, less...), "tick 5")...), append(append([]string{"object 0"}, told...), "tick 0")...)
}

// P25.1: each text has a system of its own.
func TestEachTextBegins(t *testing.T) {
	for range 3 {
		runs(t, "malloc 0 8\nobjects\nspans\n", "object 0", "64: 8 bytes on 0", "page 1: class 0 on node 0, 4 of 8 taken")
	}
}

// P25.1: each step, and what comes of it.
func TestSteps(t *testing.T) {
	talk{
		{"malloc 0 8", "object 0"},
		{"malloc 3 200", "object 1"},
		{"malloc 2 16", "object 2"},
		{"write 2 1 60 over-two-pages", "ok"},
		{"read 1 1 58 8", "bytes 00006f7665722d74"},
		{"write 0 0 0 12345678", "ok"},
		{"read 3 0 0 8", "bytes 3132333435363738"},
		{"query 0", "nodes 0"},
		{"query 1", "nodes 1 1 - -"},
		{"query 2", "nodes 1"},
		{"migrate 1 0", "moved 2"},
		{"query 1", "nodes 0 0 - -"},
		{"mbind 1 bind:0", "ok"},
		{"migrate 1 1", "moved 0"},
		{"force 1 1", "moved 2"},
		{"query 1", "nodes 1 1 - -"},
		{"migrate 0 0", "moved 0"},
		{"force 0 1", "moved 0"},
		{"objects", "64: 8 bytes on 0\n128: 200 bytes on 1 1 - -\n384: 16 bytes on 1"},
		{"spans", "page 1: class 0 on node 0, 4 of 8 taken\npage 6: class 1 on node 1, 4 of 4 taken"},
		{"nodes", "node 0: 15 free, 1 spans, 0 pages; hit 1, miss 0, foreign 0, local 1, other 0, interleave 0\n" +
			"node 1: 13 free, 1 spans, 2 pages; hit 3, miss 0, foreign 0, local 3, other 0, interleave 0"},
		{"free 2 0", "ok"},
		{"free 3 2", "ok"},
		{"drain 0", "drain 1"},
		{"drain 1", "drain 0"},
		{"release", "release 0"},
		{"flush 0", "flush 3"},
		{"flush 1", "flush 0"},
		{"flush 2", "flush 3"},
		{"flush 3", "flush 1"},
		{"release", "release 2"},
		{"spans", ""},
		{"free 0 1", "ok"},
		{"objects", ""},
		{"nodes", "node 0: 16 free, 0 spans, 0 pages; hit 1, miss 0, foreign 0, local 1, other 0, interleave 0\n" +
			"node 1: 16 free, 0 spans, 0 pages; hit 3, miss 0, foreign 0, local 3, other 0, interleave 0"},
	}.holds(t)
}

// P25.1: the errors, by number: those of the script and of the machine.
func TestErrors(t *testing.T) {
	talk{
		{"free 0 0", "error 13"},
		{"read 0 0 0 1", "error 13"},
		{"write 9 0 0 a", "error 13"},
		{"mbind 0 default", "error 13"},
		{"migrate 0 0", "error 13"},
		{"force 0 9", "error 13"},
		{"query 0", "error 13"},
		{"malloc 0 8", "object 0"},
		{"malloc 0 100", "object 1"},
		{"malloc 4 8", "error 11"},
		{"malloc 4 0", "error 11"},
		{"free 4 0", "error 11"},
		{"read 4 0 0 1", "error 11"},
		{"write 4 1 0 a", "error 11"},
		{"policy 4 default", "error 11"},
		{"flush 4", "error 11"},
		{"drain 2", "error 10"},
		{"migrate 1 2", "error 10"},
		{"force 1 2", "error 10"},
		{"read 0 0 0 9", "error 7"},
		{"read 0 0 9 0", "error 7"},
		{"write 0 1 99 ab", "error 7"},
		{"write 0 1 0 " + strings.Repeat("x", 101), "error 7"},
		{"mbind 0 default", "error 15"},
		{"mbind 0 bind:none", "error 15"},
		{"free 0 1", "ok"},
		{"free 0 1", "error 6"},
		{"read 0 1 0 0", "error 6"},
		{"mbind 1 bind:7", "error 6"},
		{"migrate 1 9", "error 6"},
		{"query 1", "error 6"},
		{"query 2", "error 13"},
		// No step that is refused changes anything, nor is an object counted that wasn't given.
		{"malloc 0 0", "error 8"},
		{"malloc 0 100", "object 2"},
		{"objects", "64: 8 bytes on 0\n128: 100 bytes on - -"},
	}.holds(t)
}

// P25.1: that there is no memory is told, too.
func TestNoMemory(t *testing.T) {
	l := talk{}
	say := func(line, told string) {
		l = append(l, struct{ line, told string }{line, told})
	}
	say("malloc 0 1024", "object 0")
	say("malloc 2 1024", "object 1")
	for obj := range 2 {
		for page := range 15 {
			say(fmt.Sprintf("write %d %d %d x", 2*obj, obj, 64*page), "ok")
		}
	}
	say("write 0 0 1000 x", "error 5")
	say("read 3 1 1023 1", "error 5")
	say("malloc 1 8", "error 5")
	say("migrate 0 1", "moved 0")
	say("tick 1", "tick 0")
	l.holds(t)
}

// P25.1: policies: each mode, with a set as nodeset reads it, which may be "none" or have nodes that the machine hasn't.
func TestPolicies(t *testing.T) {
	for word, told := range map[string]string{
		"default": "ok", "bind:0": "ok", "bind:1": "ok", "bind:0,1": "ok", "bind:1,0": "ok", "bind:0-1": "ok", "bind:1,1-1": "ok",
		"bind:none": "error 1", "bind:2": "error 10", "bind:0-7": "error 10", "bind:7": "error 10",
		"interleave:0": "ok", "interleave:0-1": "ok", "interleave:1,0": "ok",
		"interleave:none": "error 1", "interleave:1-2": "error 10", "interleave:7": "error 10",
		"prefer:0": "ok", "prefer:1": "ok", "prefer:2": "error 10", "prefer:8": "error 10", "prefer:9999": "error 10",
	} {
		runs(t, "policy 0 "+word, told)
		runs(t, "malloc 0 100\nmbind 0 "+word, "object 0", told)
		runs(t, "policy 4 "+word, "error 11")
		runs(t, "mbind 0 "+word, "error 13")
	}
	for _, word := range []string{
		"", ":", "0", "0-1", "none", "local", "Default", "default:", "default:0", "defaults", "default=", "DEFAULT",
		"bind", "bind:", "bind:8", "bind:a", "bind:0,", "bind:,0", "bind:1-0", "bind:0-8", "bind:00", "bind:-1", "bind:none,0", "bind:0,none", "bind::0", "bind:0:", "bind:0:1", "bind=0", "Bind:0", "membind:0", "binds:0", ":bind:0",
		"interleave", "interleave:", "interleave:8", "interleave:None", "interleave:0;1", "interleave:0\t", "interleave=0-1", "interleaved:0", "inter:0",
		"prefer", "prefer:", "prefer:00", "prefer:01", "prefer:-1", "prefer:none", "prefer:0,1", "prefer:0-1", "prefer:10000", "prefer::1", "prefer:1:", "prefer=1", "preferred:1", "Prefer:1",
	} {
		unknown(t, "policy 0 "+word, "mbind 0 "+word)
		unknown(t, "policy 9 "+word, "mbind 9 "+word)
	}
	unknown(t, "policy 0 bind: 0", "policy 0 bind :0", "mbind 0 bind:0, 1", "mbind 0 prefer: 1")
}

// P25.1: policies do what they say: from which nodes the frames come.
func TestPoliciesAtWork(t *testing.T) {
	touch := "write 0 0 0 a\nwrite 0 0 64 a\nwrite 0 0 128 a\nquery 0\n"
	for policy, want := range map[string]string{
		"default": "0 0 0", "bind:1": "1 1 1", "bind:0,1": "0 0 0", "interleave:0-1": "1 0 1", "interleave:0": "0 0 0", "prefer:1": "1 1 1", "prefer:0": "0 0 0",
	} {
		runs(t, "malloc 0 192\npolicy 0 "+policy+"\n"+touch, "object 0", "ok", "ok", "ok", "ok", "nodes "+want)
		runs(t, "malloc 0 192\nmbind 0 "+policy+"\n"+touch, "object 0", "ok", "ok", "ok", "ok", "nodes "+want)
	}
	runs(t, "malloc 0 192\nmbind 0 bind:1\nmbind 0 default\n"+touch, "object 0", "ok", "ok", "ok", "ok", "ok", "nodes 0 0 0")
}

// P25.1: a word's bytes are written as they are, whichever they are, and read in two signs each.
func TestBytes(t *testing.T) {
	for b := range 256 {
		word := string([]byte{byte(b), 'z', byte(b)})
		in := "malloc 0 8\nwrite 0 0 1 " + word + "\nread 0 0 0 5\n"
		switch b {
		case ' ':
			runs(t, in, "object 0", "what?", "bytes 0000000000")
		case '\n':
			runs(t, in, "object 0", "ok", "what?", "bytes 0000000000")
		default:
			runs(t, in, "object 0", "ok", fmt.Sprintf("bytes 00%02x7a%02x00", b, b))
		}
	}
	long := strings.Repeat("0123456789abcdef", 64)
	runs(t, "malloc 0 1024\nwrite 0 0 0 "+long+"\nread 0 0 0 1024\n", "object 0", "ok", fmt.Sprintf("bytes %x", long))
	runs(t, "malloc 0 1024\nwrite 0 0 0 "+long+"x\nwrite 0 0 1 "+long+"\n", "object 0", "error 7", "error 7")
	runs(t, "malloc 0 8\nwrite 0 0 0 #é\nread 0 0 0 3\n", "object 0", "ok", "bytes 23c3a9")
}

// P1: long lines and long words end, too.
func TestLongTexts(t *testing.T) {
	runs(t, strings.Repeat(" ", 1<<22), "what?")
	runs(t, "malloc 0 "+strings.Repeat("9", 1<<22), "what?")
	runs(t, "policy 0 bind:"+strings.Repeat("0,", 1<<20)+"0", "ok")
	runs(t, "#"+strings.Repeat("malloc 0 8 ", 1<<20))
	runs(t, "malloc 0 8\nwrite 0 0 0 "+strings.Repeat("x", 1<<22), "object 0", "error 7")
	runs(t, "malloc 0 8\nwrite 0 0 0 "+strings.Repeat("x ", 1<<22), "object 0", "what?")
	runs(t, strings.Repeat("\n", 1<<22)+"release")
}
