package nodeset_test

import (
	"math"
	"slices"
	"strings"
	"testing"

	"messuage/api"
	"messuage/nodeset"
)

// allSets is each set that there is.
func allSets() []nodeset.Set {
	var sets []nodeset.Set
	for s := range 256 {
		sets = append(sets, nodeset.Set(s))
	}
	return sets
}

// nodesByBits is a set's nodes, as its bits tell them.
func nodesByBits(s nodeset.Set) []int {
	var nodes []int
	for n, bit := 0, 1; n < 8; n, bit = n+1, bit*2 {
		if int(s)&bit != 0 {
			nodes = append(nodes, n)
		}
	}
	return nodes
}

// noNodes are numbers of no node.
var noNodes = []int{8, -1, 9, 63, 64, 255, 256, math.MaxInt, math.MinInt}

// P1.1: Of.
func TestOf(t *testing.T) {
	for _, c := range []struct {
		nodes []int
		want  nodeset.Set
	}{
		{nil, 0},
		{[]int{}, 0},
		{[]int{0}, 1},
		{[]int{7}, 128},
		{[]int{4, 1, 4, 1, 1}, 18},
		{[]int{7, 6, 5, 4, 3, 2, 1, 0}, 255},
		{slices.Repeat([]int{3}, 1000), 8},
	} {
		if s, e := nodeset.Of(c.nodes); s != c.want || e != api.OK {
			t.Errorf("Of(%v) = %d, %d", c.nodes, s, e)
		}
	}
	for _, n := range noNodes {
		for _, nodes := range [][]int{{n}, {0, n}, {n, 0}, {1, n, 2}} {
			if s, e := nodeset.Of(nodes); s != 0 || e != api.ErrNode {
				t.Errorf("Of(%v) = %d, %d", nodes, s, e)
			}
		}
	}
}

// P1.1: All.
func TestAll(t *testing.T) {
	for n, want := range []nodeset.Set{0, 1, 3, 7, 15, 31, 63, 127, 255} {
		if s, e := nodeset.All(n); s != want || e != api.OK {
			t.Errorf("All(%d) = %d, %d", n, s, e)
		}
	}
	for _, n := range []int{-1, 9, 64, 65, math.MaxInt, math.MinInt} {
		if s, e := nodeset.All(n); s != 0 || e != api.ErrCount {
			t.Errorf("All(%d) = %d, %d", n, s, e)
		}
	}
}

// P1.1: Has, List, Count.
func TestWhatASetHas(t *testing.T) {
	for _, s := range allSets() {
		want := nodesByBits(s)
		if got := nodeset.List(s); !slices.Equal(got, want) {
			t.Errorf("List(%d) = %v", s, got)
		}
		if got := nodeset.Count(s); got != len(want) {
			t.Errorf("Count(%d) = %d", s, got)
		}
		for n := range 8 {
			if got := nodeset.Has(s, n); got != slices.Contains(want, n) {
				t.Errorf("Has(%d, %d) = %v", s, n, got)
			}
		}
		for _, n := range noNodes {
			if nodeset.Has(s, n) {
				t.Errorf("Has(%d, %d)", s, n)
			}
		}
	}
}

// P1.1: Next, and the document's example.
func TestNext(t *testing.T) {
	if n, ok := nodeset.Next(1<<1|1<<5, 5); n != 1 || !ok {
		t.Error(n, ok)
	}
	for _, s := range allSets() {
		for _, node := range append(slices.Clone(noNodes), 0, 1, 2, 3, 4, 5, 6, 7) {
			wantNode, wantOk := nextByBits(s, node)
			if n, ok := nodeset.Next(s, node); n != wantNode || ok != wantOk {
				t.Errorf("Next(%d, %d) = %d, %v", s, node, n, ok)
			}
		}
	}
}

func nextByBits(s nodeset.Set, node int) (int, bool) {
	nodes := nodesByBits(s)
	if len(nodes) == 0 {
		return 0, false
	}
	above := slices.DeleteFunc(slices.Clone(nodes), func(n int) bool { return n <= node })
	if len(above) == 0 {
		return nodes[0], true
	}
	return above[0], true
}

// P1.1: Text, and the document's example.
func TestText(t *testing.T) {
	for want, s := range map[string]nodeset.Set{
		"none":        0,
		"0":           1,
		"7":           128,
		"0,1":         3,
		"6,7":         192,
		"0-2":         7,
		"5-7":         224,
		"0-7":         255,
		"0,2-4":       29,
		"0-2,4,5,7":   183,
		"0,2,4,6":     85,
		"0,1,3,4,6,7": 219,
		"0-2,4-6":     119,
		"1-6":         126,
	} {
		if got := nodeset.Text(s); got != want {
			t.Errorf("Text(%d) = %q, not %q", s, got, want)
		}
	}
}

// P1.1: Parse, of texts that aren't just those that Text tells.
func TestParse(t *testing.T) {
	for text, want := range map[string]nodeset.Set{
		"none":                         0,
		"0":                            1,
		"7":                            128,
		"3-3":                          8,
		"0-1":                          3,
		"0-7":                          255,
		"0-7,0-7":                      255,
		"5,3,5":                        40,
		"4-6,0,5-7":                    241,
		"1,2,3":                        14,
		strings.Repeat("2,", 99) + "2": 4,
	} {
		if s, e := nodeset.Parse(text); s != want || e != api.OK {
			t.Errorf("Parse(%q) = %d, %d", text, s, e)
		}
	}
}

// P1.1: Parse of what is no text of a set.
func TestParseRefuses(t *testing.T) {
	for _, text := range []string{
		"", ",", "-", " ", "8", "9", "/", ":", "a", "00", "01", "10", "+1", "-1", "1-", "1--2", "1-2-3", "5-3", "7-0",
		"1-8", "8-9", "0-10", "1,", ",1", "1,,2", "1, 2", " 1", "1 ", "1 -2", "1\n", "1\x00", "1;2", "None", "NONE",
		"none,1", "1,none", "none,none", "none ", " none", "non", "nonee", "no-ne", "\u0661", "\xb1", "1\u20132", "1-\xff", "\xff-1",
		strings.Repeat("1,", 100000), strings.Repeat("1", 100000), strings.Repeat("1-2,", 1000) + "2-1",
	} {
		if s, e := nodeset.Parse(text); s != 0 || e != api.ErrForm {
			t.Errorf("Parse(%.40q) = %d, %d", text, s, e)
		}
	}
}

// P1.1: Parse of each text of one and of three bytes.
func TestParseOfShortTexts(t *testing.T) {
	digit := func(b int) bool { return b >= '0' && b <= '7' }
	for a := range 256 {
		if s, e := nodeset.Parse(string([]byte{byte(a)})); (e == api.OK) != digit(a) || digit(a) && s != 1<<(a-'0') {
			t.Errorf("Parse of %d: %d, %d", a, s, e)
		}
		for b := range 256 {
			for _, c := range []int{'0', '3', '7', '8', '/', ',', '-'} {
				good := digit(a) && digit(c) && (b == ',' || b == '-' && a <= c)
				_, e := nodeset.Parse(string([]byte{byte(a), byte(b), byte(c)}))
				if (e == api.OK) != good || !good && e != api.ErrForm {
					t.Errorf("Parse of %d %d %d: %d", a, b, c, e)
				}
			}
		}
	}
}

// P1.2: back from its nodes, and from its text.
func TestASetComesBack(t *testing.T) {
	texts := map[string]nodeset.Set{}
	for _, s := range allSets() {
		if back, e := nodeset.Of(nodeset.List(s)); back != s || e != api.OK {
			t.Errorf("Of(List(%d)) = %d, %d", s, back, e)
		}
		text := nodeset.Text(s)
		if back, e := nodeset.Parse(text); back != s || e != api.OK {
			t.Errorf("Parse(%q) = %d, %d; it is the text of %d", text, back, e, s)
		}
		if other, seen := texts[text]; seen {
			t.Errorf("%d and %d have one text, %q", s, other, text)
		}
		texts[text] = s
	}
}

// P1.3: nothing that is handed in is changed, its spare room neither; answers are new memory.
func TestMemoryOfNodesIsNotShared(t *testing.T) {
	for _, last := range []int{5, 8} {
		room := []int{3, 1, last, 77, 78}
		nodeset.Of(room[:3])
		if !slices.Equal(room, []int{3, 1, last, 77, 78}) {
			t.Error("changed:", room)
		}
	}
	first := nodeset.List(255)
	second := nodeset.List(255)
	for i := range first[:cap(first)] {
		first[:cap(first)][i] = 99
	}
	if want := []int{0, 1, 2, 3, 4, 5, 6, 7}; !slices.Equal(second, want) || !slices.Equal(nodeset.List(255), want) {
		t.Error("lists share memory")
	}
}
