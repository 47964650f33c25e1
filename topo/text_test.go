package topo_test

import (
	"reflect"
	"slices"
	"strings"
	"testing"

	"messuage/api"
	"messuage/topo"
)

// good is a text of a machine, as are its lines without their line ends.
const good = "nodes 3\nframes 1024\ncpus 2 0 1 1\ndist 10 11 255\ndist 11 10 100\ndist 255 100 10\n"

// lines is a text of these, each with a line end.
func lines(l ...string) string {
	return strings.Join(l, "\n") + "\n"
}

// refused: Parse answers this error and line, and no machine.
func refused(t *testing.T, text string, wantLine int, want api.Errno) {
	t.Helper()
	m, line, e := topo.Parse(text)
	if !reflect.DeepEqual(m, topo.Topo{}) || line != wantLine || e != want {
		t.Errorf("Parse(%.80q) = %v, line %d, %d; not line %d, %d", text, m, line, e, wantLine, want)
	}
}

// P3.1: Parse and Text, and the document's example.
func TestTexts(t *testing.T) {
	for text, want := range map[string]topo.Topo{
		lines("nodes 1", "frames 4", "cpus 0 0", "dist 10"): {Nodes: 1, Frames: 4, CPUs: []int{0, 0}, Dist: [][]int{{10}}},
		lines("nodes 2", "frames 1", "cpus 1", "dist 10 20", "dist 20 10"): {
			Nodes: 2, Frames: 1, CPUs: []int{1}, Dist: [][]int{{10, 20}, {20, 10}}},
		good: {Nodes: 3, Frames: 1024, CPUs: []int{2, 0, 1, 1}, Dist: [][]int{{10, 11, 255}, {11, 10, 100}, {255, 100, 10}}},
	} {
		if m, line, e := topo.Parse(text); !reflect.DeepEqual(m, want) || line != 0 || e != api.OK {
			t.Errorf("Parse(%q) = %v, %d, %d", text, m, line, e)
		}
		if got, e := topo.Text(want); got != text || e != api.OK {
			t.Errorf("Text(%v) = %q, %d", want, got, e)
		}
	}
}

// P3.1: the line that is wrong, be it any of them.
func TestParseOfWrongLines(t *testing.T) {
	l := strings.Split(strings.TrimSuffix(good, "\n"), "\n")
	for i := range l {
		word, numbers, _ := strings.Cut(l[i], " ")
		for _, wrong := range []string{
			"", " ", word, word + " ", " " + l[i], l[i] + " ", l[i] + "\r", l[i] + "\t", word + "  " + numbers, word + "\t" + numbers,
			word + numbers, numbers, strings.ToUpper(word) + " " + numbers, word + "s " + numbers, "s" + word + " " + numbers,
			word + " x", word + " -1", word + " +1", word + " 1.0", word + " 00", word + " 01", word + " 0001", word + " 00000",
			word + " 12345", word + " 10000", word + " 99999999999999999999", word + " 1_0", word + " 0x1", word + " \u0661", word + " 1\x00",
			word + " /", word + " :", word + " 1 /", l[i] + "  1", l[i] + " x", l[i] + " 10000", l[i] + " 00", l[i] + " 1 ", l[i] + "x",
			l[i] + ",1", "other 1", strings.Repeat("x", 100000),
		} {
			changed := slices.Clone(l)
			changed[i] = wrong
			refused(t, lines(changed...), i+1, api.ErrForm)
			// What comes behind, be it as wrong as it may, doesn't count.
			refused(t, lines(append(changed[:i+1:i+1], "x", "", "y")...), i+1, api.ErrForm)
			refused(t, lines(changed[:i+1]...), i+1, api.ErrForm)
		}
	}
	refused(t, strings.Replace(good, "nodes 3", "nodes 3 3", 1), 1, api.ErrForm)
	refused(t, strings.Replace(good, "frames 1024", "frames 1024 8", 1), 2, api.ErrForm)
}

// P3.1: lines that are missing, or too many, or in another order, or without a line end.
func TestParseOfMissingLines(t *testing.T) {
	l := strings.Split(strings.TrimSuffix(good, "\n"), "\n")
	refused(t, "", 1, api.ErrForm)
	refused(t, "\n", 1, api.ErrForm)
	for i := range l {
		if i > 0 {
			refused(t, lines(l[:i]...), i+1, api.ErrForm)
			refused(t, lines(l[:i]...)+"\n", i+1, api.ErrForm)
		}
		refused(t, strings.TrimSuffix(lines(l[:i+1]...), "\n"), i+1, api.ErrForm)
		if i < 3 {
			refused(t, lines(slices.Delete(slices.Clone(l), i, i+1)...), i+1, api.ErrForm)
		}
		refused(t, lines(slices.Insert(slices.Clone(l), i, "")...), i+1, api.ErrForm)
	}
	for _, more := range []string{"\n", "x", " ", "dist 10 10 10\n", "\n\n", "\r\n", "\x00", "dist 1\ndist 2\n", good} {
		refused(t, good+more, 7, api.ErrForm)
	}
	refused(t, lines(l[0], l[2], l[1], l[3], l[4], l[5]), 2, api.ErrForm)
	refused(t, strings.ReplaceAll(good, "\n", "\r\n"), 1, api.ErrForm)
	refused(t, "\n"+good, 1, api.ErrForm)
}

// P3.1: "nodes" says how many lines there must be, even if there can be no such machine.
func TestParseCountsLinesByNodes(t *testing.T) {
	head := func(nodes string) string { return lines("nodes "+nodes, "frames 8", "cpus 0") }
	refused(t, head("0"), 0, api.ErrCount)
	refused(t, head("0")+"dist 10\n", 4, api.ErrForm)
	refused(t, head("9"), 4, api.ErrForm)
	refused(t, head("9")+strings.Repeat("dist 10\n", 8), 12, api.ErrForm)
	refused(t, head("9")+strings.Repeat("dist 10\n", 9), 0, api.ErrCount)
	refused(t, head("9")+strings.Repeat("dist 10\n", 10), 13, api.ErrForm)
	refused(t, head("9999")+strings.Repeat("dist 0\n", 9999), 0, api.ErrCount)
	refused(t, head("9999")+strings.Repeat("dist 0\n", 9998), 10002, api.ErrForm)
	refused(t, head("9999")+strings.Repeat("dist 0\n", 9998)+"dist 00\n", 10002, api.ErrForm)
	refused(t, head("9999")+strings.Repeat("dist 0\n", 10000), 10003, api.ErrForm)
}

// P3.1: Check's errors, of texts that are in form, and line 0.
func TestParseAnswersChecksErrors(t *testing.T) {
	refused(t, strings.Replace(good, "frames 1024", "frames 0", 1), 0, api.ErrCount)
	refused(t, strings.Replace(good, "frames 1024", "frames 9999", 1), 0, api.ErrCount)
	refused(t, strings.Replace(good, "frames 1024", "frames 3", 1), 0, api.ErrCount)
	refused(t, strings.Replace(good, "cpus 2 0 1 1", "cpus"+strings.Repeat(" 0", 17), 1), 0, api.ErrCount)
	refused(t, strings.Replace(good, "cpus 2 0 1 1", "cpus"+strings.Repeat(" 9999", 100000), 1), 0, api.ErrCount)
	refused(t, strings.Replace(good, "cpus 2", "cpus 3", 1), 0, api.ErrNode)
	refused(t, strings.Replace(good, "cpus 2", "cpus 9999", 1), 0, api.ErrNode)
	refused(t, strings.Replace(good, "11 255\n", "11\n", 1), 0, api.ErrMatrix)
	refused(t, strings.Replace(good, "11 255\n", "11 255 10\n", 1), 0, api.ErrMatrix)
	refused(t, strings.Replace(good, "11 255\n", "11 254\n", 1), 0, api.ErrMatrix)
	refused(t, strings.ReplaceAll(good, "255", "256"), 0, api.ErrMatrix)
	refused(t, strings.ReplaceAll(good, "11", "10"), 0, api.ErrMatrix)
	refused(t, strings.Replace(good, "dist 10 ", "dist 0 ", 1), 0, api.ErrMatrix)
	refused(t, strings.Replace(good, "frames 1024", "frames 3", 1)+"x", 7, api.ErrForm)
}

// P3.2: a machine comes back from its text.
func TestAMachineComesBack(t *testing.T) {
	for nodes := 1; nodes <= 8; nodes++ {
		for frames := 1; frames <= 1024; frames *= 2 {
			m := machine(nodes, frames)
			m.CPUs = append(m.CPUs, nodes-1, 0, nodes/2)
			text, e := topo.Text(m)
			if e != api.OK {
				t.Fatal(m, e)
			}
			if back, line, e := topo.Parse(text); !reflect.DeepEqual(back, m) || line != 0 || e != api.OK {
				t.Errorf("Parse(%q) = %v, %d, %d", text, back, line, e)
			}
		}
	}
}

// P3.2: no other text is a machine's: what is near to a text is none, or the text of what it tells.
func TestNoOtherTextIsAMachines(t *testing.T) {
	signs := []string{"", " ", "\n", "0", "1", "2", "9", "-", "+", "x", "d", "\t", "\r", "\x00", "\xff", "10", " 1", "\n\n"}
	for at := range len(good) + 1 {
		for _, sign := range signs {
			texts := []string{good[:at] + sign + good[at:]}
			if at < len(good) {
				texts = append(texts, good[:at]+sign+good[at+1:])
			}
			for _, text := range texts {
				m, line, e := topo.Parse(text)
				if (e == api.ErrForm) != (line != 0) {
					t.Errorf("Parse(%q): line %d, %d", text, line, e)
				}
				if e != api.OK {
					refused(t, text, line, e)
				} else if back, e := topo.Text(m); back != text || e != api.OK {
					t.Errorf("%q is a text of %v, as %q", text, m, back)
				}
			}
		}
	}
}

// P3.3: lists of answers share no memory.
func TestMemoryOfMachinesIsNotShared(t *testing.T) {
	first, _, _ := topo.Parse(good)
	second, _, _ := topo.Parse(good)
	want := copied(second)
	spoil := func(l []int) {
		l = l[:cap(l)]
		for i := range l {
			l[i] = 99
		}
	}
	spoil(first.CPUs)
	if !reflect.DeepEqual(first.Dist, want.Dist) {
		t.Error("CPUs share memory with distances")
	}
	spoil(first.Dist[0])
	spoil(first.Dist[1])
	if !slices.Equal(first.Dist[2], want.Dist[2]) {
		t.Error("rows share memory")
	}
	spoil(first.Dist[2])
	if third, _, _ := topo.Parse(good); !reflect.DeepEqual(second, want) || !reflect.DeepEqual(third, want) {
		t.Error("answers share memory")
	}
}
