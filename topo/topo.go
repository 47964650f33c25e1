// Package topo is layer 3: machines of several nodes: see shared/doc/03-topo.md.
package topo

import (
	"messuage/api"
	"messuage/grid"
)

// Topo is a machine: its nodes, the frames of each, the node of each CPU, the distances.
type Topo struct {
	Nodes, Frames int
	CPUs          []int
	Dist          [][]int
}

// Check tells whether it is a machine.
func Check(t Topo) api.Errno {
	if !countsFit(t) {
		return api.ErrCount
	}
	if !cpusFit(t) {
		return api.ErrNode
	}
	if !distancesFit(t) {
		return api.ErrMatrix
	}
	return api.OK
}

// Parse is the machine that a text tells; with ErrForm the line that is wrong.
func Parse(text string) (Topo, int, api.Errno) {
	t, wrong := read(text)
	if wrong != 0 {
		return Topo{}, wrong, api.ErrForm
	}
	if e := Check(t); e != api.OK {
		return Topo{}, 0, e
	}
	return t, 0, api.OK
}

// Text is the machine's text.
func Text(t Topo) (string, api.Errno) {
	if e := Check(t); e != api.OK {
		return "", e
	}
	text := line(nodesWord, t.Nodes) + line(framesWord, t.Frames) + line(cpusWord, t.CPUs...)
	for _, row := range t.Dist {
		text += line(distWord, row...)
	}
	return text, api.OK
}

func countsFit(t Topo) bool {
	return t.Nodes >= 1 && t.Nodes <= api.MaxNodes &&
		t.Frames >= 1 && t.Frames <= api.MaxFrames && isPowerOfTwo(t.Frames) &&
		len(t.CPUs) >= 1 && len(t.CPUs) <= api.MaxCPUs
}

func isPowerOfTwo(n int) bool {
	return n > 0 && n&(n-1) == 0
}

func cpusFit(t Topo) bool {
	for _, node := range t.CPUs {
		if node < 0 || node >= t.Nodes {
			return false
		}
	}
	return true
}

func distancesFit(t Topo) bool {
	if len(t.Dist) != t.Nodes {
		return false
	}
	distances, _ := grid.New[int](t.Nodes, t.Nodes)
	for from, row := range t.Dist {
		if len(row) != t.Nodes {
			return false
		}
		for to, d := range row {
			if !distanceFits(from, to, d) {
				return false
			}
			distances.Put(from, to, d)
		}
	}
	return distances.Same(distances.Turned())
}

func distanceFits(from, to, d int) bool {
	if from == to {
		return d == api.Local
	}
	return d > api.Local && d <= api.Remote
}
