package rule_test

import (
	"fmt"
	"math"
	"slices"
	"strings"
	"testing"

	"messuage/api"
	"messuage/nodeset"
	"messuage/policy"
	"messuage/rule"
)

// none is what a mode has of what isn't its: nothing.
var none policy.Policy

func text(t *testing.T, p policy.Policy, want string) {
	t.Helper()
	if got, e := rule.Text(p); got != want || e != api.OK {
		t.Errorf("Text(%v) = %q, %d, not %q", p, got, e, want)
	}
}

func noText(t *testing.T, p policy.Policy) {
	t.Helper()
	if got, e := rule.Text(p); got != "" || e != api.ErrArg {
		t.Errorf("Text(%v) = %q, %d", p, got, e)
	}
}

func parses(t *testing.T, s string, want policy.Policy) {
	t.Helper()
	if got, e := rule.Parse(s); got != want || e != api.OK {
		t.Errorf("Parse(%q) = %v, %d, not %v", s, got, e, want)
	}
}

func noPolicy(t *testing.T, s string) {
	t.Helper()
	if got, e := rule.Parse(s); got != none || e != api.ErrForm {
		t.Errorf("Parse(%.100q) = %v, %d", s, got, e)
	}
}

func bind(set nodeset.Set) policy.Policy {
	return policy.Policy{Mode: policy.Bind, Set: set}
}

func interleave(set nodeset.Set) policy.Policy {
	return policy.Policy{Mode: policy.Interleave, Set: set}
}

func preferred(node int) policy.Policy {
	return policy.Policy{Mode: policy.Preferred, Node: node}
}

// all are all policies, without what their modes don't have.
func all() []policy.Policy {
	list := []policy.Policy{none}
	for set := 1; set < 256; set++ {
		list = append(list, bind(nodeset.Set(set)), interleave(nodeset.Set(set)))
	}
	for node := range 8 {
		list = append(list, preferred(node))
	}
	return list
}

// P26.1: the document's example.
func TestExample(t *testing.T) {
	parses(t, "interleave=0,2-3", interleave(1|4|8))
	text(t, interleave(1|4|8), "interleave=0,2,3")
}

// P26.1: the text of each kind of policy.
func TestText(t *testing.T) {
	text(t, none, "local")
	text(t, bind(1), "membind=0")
	text(t, bind(6), "membind=1,2")
	text(t, bind(255), "membind=0-7")
	text(t, interleave(0xdd), "interleave=0,2-4,6,7")
	text(t, interleave(128), "interleave=7")
	text(t, preferred(0), "preferred=0")
	text(t, preferred(7), "preferred=7")
}

// P26.1: what a mode doesn't have isn't looked at.
func TestTextOfMore(t *testing.T) {
	for _, n := range []int{-1, 8, 9, math.MaxInt, math.MinInt} {
		text(t, policy.Policy{Mode: policy.Default, Set: 3, Node: n}, "local")
		text(t, policy.Policy{Mode: policy.Bind, Set: 3, Node: n}, "membind=0,1")
		text(t, policy.Policy{Mode: policy.Interleave, Set: 3, Node: n}, "interleave=0,1")
		text(t, policy.Policy{Mode: policy.Preferred, Set: 255, Node: 3}, "preferred=3")
	}
}

// P26.1: what is no policy on 8 nodes has no text.
func TestNoText(t *testing.T) {
	for _, mode := range []int{-1, 4, 5, 16, 255, 256, 257, 1 << 32, 1<<32 + 1, math.MaxInt, math.MinInt} {
		noText(t, policy.Policy{Mode: mode, Set: 1})
	}
	noText(t, bind(0))
	noText(t, interleave(0))
	noText(t, policy.Policy{Mode: policy.Bind, Node: 1})
	for _, node := range []int{-1, 8, 9, 10, 255, 256, 1 << 32, math.MaxInt, math.MinInt} {
		noText(t, policy.Policy{Mode: policy.Preferred, Set: 1, Node: node})
	}
}

// P26.2: all policies come back from their texts, no two of which are the same.
func TestTextsComeBack(t *testing.T) {
	seen := map[string]policy.Policy{}
	for _, p := range all() {
		s, e := rule.Text(p)
		if other, has := seen[s]; has || e != api.OK {
			t.Errorf("Text(%v) = %q, %d, as of %v", p, s, e, other)
		}
		seen[s] = p
		parses(t, s, p)
	}
	if len(seen) != 1+255+255+8 {
		t.Errorf("%d texts", len(seen))
	}
}

// P26.1: sets may be written in other ways, too.
func TestOtherSets(t *testing.T) {
	parses(t, "membind=2,1", bind(6))
	parses(t, "membind=1,1", bind(2))
	parses(t, "membind=1-1", bind(2))
	parses(t, "membind=0,1,2", bind(7))
	parses(t, "membind=0-1", bind(3))
	parses(t, "interleave=4-7,0-5,3", interleave(255))
	parses(t, "interleave=0,1,2,3,4,5,6,7", interleave(255))
}

// P26.1: what is no policy's text.
func TestNoPolicy(t *testing.T) {
	for _, s := range []string{
		"", " ", "l", "loca", "locall", "Local", "LOCAL", " local", "local ", "local\n", "\nlocal", "local\x00", "local=", "local=0", "default",
		"membind", "membind=", "membind= ", "membind=none", "membind=None", "membind= 0", "membind=0 ", "membind=8", "membind=9", "membind=-1",
		"membind=+1", "membind=00", "membind=01", "membind=0-8", "membind=2-1", "membind=0,", "membind=,0", "membind=0,,1", "membind=0-", "membind=-",
		"membind=0-1-2", "membind=0;1", "membind:0", "membind 0", "membind==0", "Membind=0", "bind=0", "mem bind=0", " membind=0", "membind=0\n",
		"membind=0,none", "membind=none,0", "membind=٣", "membind=a", "membind=0x1", "membind=interleave=0", "membind=local",
		"interleave", "interleave=", "interleave=none", "interleave=8", "interleave=1-0", "interleave=0 ", "Interleave=0", "interleave =0",
		"preferred", "preferred=", "preferred=8", "preferred=9", "preferred=-1", "preferred=+1", "preferred=00", "preferred=07", "preferred=10", "preferred=0,1",
		"preferred=0-0", "preferred=0-1", "preferred=none", "preferred=0 ", "preferred= 0", "preferred=a", "preferred=/", "preferred=:", "preferred=\x00",
		"preferred=\xff", "preferred=٣", "prefer=0", "preferred", "preferred=preferred=0", "none", "0", "=", "=0", "local,local", "locallocal",
		"membind=" + strings.Repeat("0,", 100000), strings.Repeat("x", 100000), "membind=" + strings.Repeat(" ", 1000) + "0", "\xff\xfe",
	} {
		noPolicy(t, s)
	}
}

// P26.1: of all short texts behind a policy's word just those are in form that nodeset reads, but for none.
func TestAllShortTexts(t *testing.T) {
	tails := []string{""}
	for i := 0; i < len(tails); i++ {
		tail := tails[i]
		if len(tail) < 4 {
			for _, sign := range "01789,-n/" {
				tails = append(tails, tail+string(sign))
			}
		}
		set, e := nodeset.Parse(tail)
		if e == api.OK && set != 0 {
			parses(t, "membind="+tail, bind(set))
			parses(t, "interleave="+tail, interleave(set))
		} else {
			noPolicy(t, "membind="+tail)
			noPolicy(t, "interleave="+tail)
		}
		if strings.Contains("|0|1|7|", "|"+tail+"|") {
			parses(t, "preferred="+tail, preferred(int(tail[0]-'0')))
		} else {
			noPolicy(t, "preferred="+tail)
		}
		noPolicy(t, tail)
		if tail != "" {
			noPolicy(t, "local"+tail)
		}
	}
}

// lists is of lines that are in form.
func lists(t *testing.T, lines string, names []string, l []policy.Policy) {
	t.Helper()
	gotNames, got, at, e := rule.List(lines)
	if !slices.Equal(gotNames, names) || !slices.Equal(got, l) || at != 0 || e != api.OK {
		t.Errorf("List(%.200q) = %q, %v, %d, %d, not %q, %v", lines, gotNames, got, at, e, names, l)
	}
}

func noList(t *testing.T, lines string, line int, want api.Errno) {
	t.Helper()
	names, l, at, e := rule.List(lines)
	if len(names) != 0 || len(l) != 0 || at != line || e != want {
		t.Errorf("List(%.200q) = %q, %v, %d, %d, not %d, %d", lines, names, l, at, e, line, want)
	}
}

func joins(t *testing.T, names []string, l []policy.Policy, want string) {
	t.Helper()
	if got, e := rule.Join(names, l); got != want || e != api.OK {
		t.Errorf("Join(%q, %v) = %q, %d, not %q", names, l, got, e, want)
	}
}

func noJoin(t *testing.T, names []string, l []policy.Policy, want api.Errno) {
	t.Helper()
	if got, e := rule.Join(names, l); got != "" || e != want {
		t.Errorf("Join(%q, %v) = %q, %d, not %d", names, l, got, e, want)
	}
}

// P26.1, P26.2: lines and lists.
func TestList(t *testing.T) {
	const z16 = "zzzzzzzzzzzzzzzz"
	for _, c := range []struct {
		lines string
		names []string
		l     []policy.Policy
	}{
		{"", nil, nil},
		{"a: local\n", []string{"a"}, []policy.Policy{none}},
		{"b: membind=1,2\na: local\n", []string{"b", "a"}, []policy.Policy{bind(6), none}},
		{z16 + ": preferred=7\nz: interleave=0-7\n" + z16[1:] + ": membind=0\n", []string{z16, "z", z16[1:]}, []policy.Policy{preferred(7), interleave(255), bind(1)}},
		{"local: local\nmembind: membind=3\n", []string{"local", "membind"}, []policy.Policy{none, bind(8)}},
		{"az: local\nza: local\n", []string{"az", "za"}, []policy.Policy{none, none}},
	} {
		lists(t, c.lines, c.names, c.l)
		joins(t, c.names, c.l, c.lines)
	}
	// What Parse reads may be written in other ways.
	lists(t, "a: membind=2,1\nb: interleave=0-1,1\n", []string{"a", "b"}, []policy.Policy{bind(6), interleave(3)})
	joins(t, []string{}, []policy.Policy{}, "")
	joins(t, []string{"a", "b"}, []policy.Policy{{Set: 3, Node: 99}, {Mode: policy.Preferred, Set: 7, Node: 2}}, "a: local\nb: preferred=2\n")
}

// P26.1: what is no line, alone and as the second one of three.
func TestNoLine(t *testing.T) {
	for _, line := range []string{
		"", " ", "a", "a:", "a: ", ": local", ":local", "local", "a:local", "a :local", "a : local", "a:  local", " a: local", "a: local ", "a: local\r", "a: \tlocal",
		"A: local", "aB: local", "a1: local", "a_b: local", "a-b: local", "a b: local", "ä: local", "`: local", "{: local", "@: local", "\x00: local", "a\x00: local", "\xff: local",
		"aaaaaaaaaaaaaaaaa: local", "zzzzzzzzzzzzzzzzz: membind=0", "a: Local", "a: membind=none", "a: membind=8", "a: preferred=8", "a: interleave=", "a: a: local", "a: : local", "a:: local",
		"a: local: local", "a: local, b: local", "a\t: local", "a= local", "a: local;", "#a: local", "a: local #", "a: nothing",
	} {
		noList(t, line+"\n", 1, api.ErrForm)
		noList(t, "x: local\n"+line+"\ny: local\n", 2, api.ErrForm)
		noList(t, "x: local\n"+line+"\nx: local\n", 2, api.ErrForm)
		noList(t, "x: local\ny: local\nz: local\n"+line+"\n", 4, api.ErrForm)
		if line != "" {
			noList(t, "x: local\n"+line, 2, api.ErrForm)
		}
	}
	// A line end alone is a line, and none stands behind the last one.
	noList(t, "\n", 1, api.ErrForm)
	noList(t, "\na: local\n", 1, api.ErrForm)
	noList(t, "a: local\n\n", 2, api.ErrForm)
	noList(t, "a: local\n\nb: local\n", 2, api.ErrForm)
	noList(t, "a: local\r\nb: local\r\n", 1, api.ErrForm)
}

// P26.1: a last line without an end isn't one, whatever stands in it.
func TestLastLineWithoutEnd(t *testing.T) {
	noList(t, "a: local", 1, api.ErrForm)
	noList(t, "a", 1, api.ErrForm)
	noList(t, "a: local\nb: membind=1", 2, api.ErrForm)
	noList(t, "a: local\na: local", 2, api.ErrForm)
	noList(t, "a: local\nb: local\n ", 3, api.ErrForm)
}

// P26.1: a name that was there ahead: ErrMap, of the first line that is wrong.
func TestNamesTwice(t *testing.T) {
	noList(t, "a: local\na: local\n", 2, api.ErrMap)
	noList(t, "a: local\na: membind=0\n", 2, api.ErrMap)
	noList(t, "a: local\nb: local\na: local\nb: local\n", 3, api.ErrMap)
	noList(t, "a: local\na: local\nwrong\n", 2, api.ErrMap)
	noList(t, "a: local\nwrong\na: local\n", 2, api.ErrForm)
	noList(t, "a: local\na: wrong\n", 2, api.ErrForm)
	noList(t, "a: local\nab: local\nabc: local\nab: local\n", 4, api.ErrMap)
	lists(t, "a: local\nab: local\nb: local\n", []string{"a", "ab", "b"}, []policy.Policy{none, none, none})
}

// P26.1: Join's errors, in their order, wherever in the lists they are.
func TestNoJoin(t *testing.T) {
	p := []policy.Policy{none, none, none}
	wrong := policy.Policy{Mode: 4}
	noJoin(t, []string{"a"}, nil, api.ErrCount)
	noJoin(t, nil, p[:1], api.ErrCount)
	noJoin(t, []string{"a", "b"}, p, api.ErrCount)
	noJoin(t, []string{"", "", "", ""}, []policy.Policy{wrong, wrong, wrong}, api.ErrCount)
	for _, name := range []string{
		"", " ", "A", "Z", "1", "a1", "a b", " a", "a ", "a:", "a: ", "a\n", "\na", "é", "`", "{", "\x00", "\xff", "aaaaaaaaaaaaaaaaa", strings.Repeat("a", 100000),
	} {
		for at := range 3 {
			names := []string{"a", "a", "a"}
			names[at] = name
			noJoin(t, names, []policy.Policy{wrong, wrong, wrong}, api.ErrForm)
			names = []string{"x", "y", "z"}
			names[at] = name
			noJoin(t, names, p, api.ErrForm)
		}
	}
	noJoin(t, []string{"a", "a"}, p[:2], api.ErrMap)
	noJoin(t, []string{"a", "b", "a"}, p, api.ErrMap)
	noJoin(t, []string{"c", "b", "b"}, []policy.Policy{wrong, none, none}, api.ErrMap)
	noJoin(t, []string{"c", "b", "b"}, []policy.Policy{none, none, wrong}, api.ErrMap)
	for _, q := range []policy.Policy{wrong, bind(0), interleave(0), preferred(8), preferred(-1), {Mode: -1}} {
		noJoin(t, []string{"a"}, []policy.Policy{q}, api.ErrArg)
		for at := range 3 {
			l := slices.Clone(p)
			l[at] = q
			noJoin(t, []string{"a", "b", "c"}, l, api.ErrArg)
		}
	}
	joins(t, []string{"aaaaaaaaaaaaaaaa"}, p[:1], "aaaaaaaaaaaaaaaa: local\n")
}

// name is one for each number.
func name(n int) string {
	s := string(rune('a' + n%26))
	if n < 26 {
		return s
	}
	return s + name(n/26-1)
}

// P26.2: long lists come back, from their lines and from themselves.
func TestListsComeBack(t *testing.T) {
	policies := all()
	for _, n := range []int{1, 2, 26, 27, 500, 20000} {
		var names []string
		var l []policy.Policy
		var want strings.Builder
		for i := range n {
			names, l = append(names, name(i)), append(l, policies[i*7%len(policies)])
			s, _ := rule.Text(l[i])
			fmt.Fprintf(&want, "%s: %s\n", names[i], s)
		}
		joins(t, names, l, want.String())
		lists(t, want.String(), names, l)
		noList(t, want.String()+names[n/2]+": local\n", n+1, api.ErrMap)
		noList(t, want.String()+"A: local\n", n+1, api.ErrForm)
		noJoin(t, append(slices.Clone(names), names[n-1]), append(slices.Clone(l), none), api.ErrMap)
	}
}

// P26.3: what is handed in isn't changed, nor is its spare room, and answers are new memory.
func TestMemory(t *testing.T) {
	names, l := []string{"a", "b", "spare"}, []policy.Policy{bind(1), none, bind(7)}
	joins(t, names[:2], l[:2], "a: membind=0\nb: local\n")
	if !slices.Equal(names, []string{"a", "b", "spare"}) || !slices.Equal(l, []policy.Policy{bind(1), none, bind(7)}) {
		t.Errorf("%q, %v are changed", names, l)
	}
	const lines = "a: local\nb: membind=0\n"
	oneNames, one, _, _ := rule.List(lines)
	oneNames, one = oneNames[:cap(oneNames)], one[:cap(one)]
	otherNames, other, _, _ := rule.List(lines)
	for i := range oneNames {
		oneNames[i] = "spoilt"
	}
	for i := range one {
		one[i].Mode = 99
	}
	if !slices.Equal(otherNames, []string{"a", "b"}) || !slices.Equal(other, []policy.Policy{none, bind(1)}) {
		t.Errorf("%q, %v share memory", otherNames, other)
	}
	lists(t, lines, otherNames, other)
}
