package trace_test

import (
	"bytes"
	"encoding/hex"
	"fmt"
	"math"
	"slices"
	"strings"
	"testing"

	"messuage/api"
	"messuage/heap"
	"messuage/nodeset"
	"messuage/policy"
	"messuage/script"
	"messuage/topo"
	"messuage/trace"
)

// full is a step with something in each field.
func full() script.Step {
	return script.Step{
		Kind: script.Write, CPU: 0x12, Obj: 0x3456, At: 0x789a, N: 0xbcde, Bytes: []byte("xyz"),
		Policy: policy.Policy{Mode: policy.Interleave, Set: 0xa5, Node: 0xf1}, Told: true,
	}
}

func equal(a, b script.Step) bool {
	same := bytes.Equal(a.Bytes, b.Bytes)
	a.Bytes, b.Bytes = nil, nil
	return same && fmt.Sprint(a) == fmt.Sprint(b)
}

// writes is of steps and their bytes, in base 16.
func writes(t *testing.T, l []script.Step, want string) {
	t.Helper()
	want = strings.ToLower(strings.ReplaceAll(want, " ", ""))
	got, e := trace.Write(l)
	if hex.EncodeToString(got) != want || e != api.OK {
		t.Errorf("Write(%v) = %x, %d, not %s", l, got, e, want)
	}
	b, _ := hex.DecodeString(want)
	reads(t, b, l)
}

func reads(t *testing.T, b []byte, want []script.Step) {
	t.Helper()
	if got, e := trace.Read(b); !slices.EqualFunc(got, want, equal) || e != api.OK {
		t.Errorf("Read(%x) = %v, %d, not %v", b, got, e, want)
	}
}

// back is of steps that come back from their bytes.
func back(t *testing.T, l ...script.Step) {
	t.Helper()
	b, e := trace.Write(l)
	if e != api.OK {
		t.Errorf("Write(%v): %d", l, e)
	}
	reads(t, b, l)
}

func noBytes(t *testing.T, l ...script.Step) {
	t.Helper()
	if b, e := trace.Write(l); len(b) != 0 || e != api.ErrForm {
		t.Errorf("Write(%v) = %x, %d", l, b, e)
	}
}

func noSteps(t *testing.T, b []byte) {
	t.Helper()
	if l, e := trace.Read(b); len(l) != 0 || e != api.ErrForm {
		t.Errorf("Read(%x) = %v, %d", b, l, e)
	}
}

// P27.1: the document's example.
func TestExample(t *testing.T) {
	writes(t, []script.Step{{Kind: script.Release}}, "0B 00 00 00 00 00 00 00 00 00 00 00")
}

// P27.1: each number has its bytes, the higher first; steps stand one behind the other.
func TestPlaces(t *testing.T) {
	writes(t, nil, "")
	writes(t, []script.Step{full()}, "04 12 3456 789a bcde 12 a5 f1 03 78797a")
	writes(t, []script.Step{{Kind: script.Malloc, CPU: 3, N: 200}}, "01 03 0000 0000 00c8 00 00 00 00")
	writes(t, []script.Step{{Kind: script.Read, Obj: 1, At: 256, N: 255}}, "03 00 0001 0100 00ff 00 00 00 00")
	writes(t, []script.Step{{Kind: script.Policy, Policy: policy.Policy{Mode: policy.Bind, Set: 129}}}, "05 00 0000 0000 0000 01 81 00 00")
	writes(t, []script.Step{{Kind: script.MBind, Policy: policy.Policy{Mode: policy.Preferred, Node: 7}}}, "06 00 0000 0000 0000 03 00 07 00")
	writes(t, []script.Step{{Kind: script.Migrate, Obj: 65535, N: 1, Told: true}}, "07 00 ffff 0000 0001 10 00 00 00")
	writes(t, []script.Step{{Kind: script.Tick, N: 65535}, {Kind: script.Write, Bytes: []byte{0}}, {Kind: script.Flush, CPU: 255}},
		"0c 00 0000 0000 ffff 00 00 00 00 04 00 0000 0000 0000 00 00 00 01 00 0a ff 0000 0000 0000 00 00 00 00")
}

// set makes a step with one number.
type set struct {
	most int
	put  func(x *script.Step, n int)
}

// numbers are all that a step has, but for those of which not all are allowed.
var numbers = []set{
	{255, func(x *script.Step, n int) { x.CPU = n }},
	{65535, func(x *script.Step, n int) { x.Obj = n }},
	{65535, func(x *script.Step, n int) { x.At = n }},
	{65535, func(x *script.Step, n int) { x.N = n }},
	{3, func(x *script.Step, n int) { x.Policy.Mode = n }},
	{255, func(x *script.Step, n int) { x.Policy.Node = n }},
}

// P27.1, P27.2: numbers just within their bytes, and just beyond, whether the step's Kind and Mode have them or not.
func TestNumbers(t *testing.T) {
	for kind := script.Malloc; kind <= script.Tick; kind++ {
		for _, base := range []script.Step{{Kind: kind}, full()} {
			base.Kind = kind
			for _, number := range numbers {
				for _, n := range []int{0, 1, number.most / 2, number.most - 1, number.most} {
					x := base
					number.put(&x, n)
					back(t, x)
				}
				for _, n := range []int{
					-1, -2, -255, -256, -65535, -65536, number.most + 1, number.most + 2, 65536, 65537, 1 << 24, 1 << 32, 1<<32 + 1, math.MaxInt, math.MinInt, math.MinInt + 1,
				} {
					x := base
					number.put(&x, n)
					noBytes(t, x)
					noBytes(t, base, x)
					noBytes(t, x, base)
				}
			}
			for s := range 256 {
				x := base
				x.Policy.Set = nodeset.Set(s)
				back(t, x)
			}
		}
	}
}

// P27.1: a Kind below 1 and above 12 has no bytes.
func TestKinds(t *testing.T) {
	for kind := 1; kind <= 12; kind++ {
		x := full()
		x.Kind = kind
		back(t, x)
	}
	for _, kind := range []int{0, -1, 13, 14, 16, 255, 256, 257, 268, -255, -244, 1 << 32, 1<<32 + 1, math.MaxInt, math.MinInt, math.MinInt + 1} {
		x := full()
		x.Kind = kind
		noBytes(t, x)
		noBytes(t, full(), x)
	}
}

// P27.1: up to 255 bytes.
func TestCounts(t *testing.T) {
	for _, n := range []int{0, 1, 2, 127, 128, 254, 255} {
		x := full()
		x.Bytes = bytes.Repeat([]byte{7}, n)
		back(t, x)
		back(t, x, full(), x)
	}
	for _, n := range []int{256, 257, 511, 512, 65536, 1 << 20} {
		x := full()
		x.Bytes = make([]byte, n)
		noBytes(t, x)
		noBytes(t, full(), x, full())
	}
	x := full()
	x.Bytes = []byte{}
	writes(t, []script.Step{x}, "04 12 3456 789a bcde 12 a5 f1 00")
}

// P27.1: bytes cut within a step are no script's; those cut between two are.
func TestCutBytes(t *testing.T) {
	l := []script.Step{{Kind: script.Release}, full(), {Kind: script.Tick, N: 1}, {Kind: script.Write, Bytes: make([]byte, 255)}, full()}
	b, _ := trace.Write(l)
	ends := map[int]int{}
	for n := range len(l) + 1 {
		part, _ := trace.Write(l[:n])
		ends[len(part)] = n + 1
	}
	for end := range len(b) + 1 {
		if n := ends[end]; n > 0 {
			reads(t, b[:end], l[:n-1])
		} else {
			noSteps(t, b[:end])
		}
	}
	for begin := 1; begin < 12; begin++ {
		noSteps(t, b[begin:])
	}
	noSteps(t, append(slices.Clone(b), 0))
	noSteps(t, append(slices.Clone(b), b[:11]...))
}

// P27.1, P27.2: of all Kind bytes and Mode bytes just those that are written are read.
func TestBytesThatNoneWrites(t *testing.T) {
	release, _ := trace.Write([]script.Step{{Kind: script.Release}})
	for n := range 256 {
		b := slices.Clone(release)
		b[0] = byte(n)
		if n >= 1 && n <= 12 {
			reads(t, b, []script.Step{{Kind: n}})
		} else {
			noSteps(t, b)
			noSteps(t, append(slices.Clone(release), b...))
			noSteps(t, append(b, release...))
		}
		b = slices.Clone(release)
		b[8] = byte(n)
		if n < 4 {
			reads(t, b, []script.Step{{Kind: script.Release, Policy: policy.Policy{Mode: n}}})
		} else if n >= 16 && n < 20 {
			reads(t, b, []script.Step{{Kind: script.Release, Policy: policy.Policy{Mode: n - 16}, Told: true}})
		} else {
			noSteps(t, b)
		}
	}
}

// dice makes steps and bytes.
type dice uint32

func (d *dice) next(n int) int {
	*d = *d*1664525 + 1013904223
	return int(*d>>8) % n
}

func (d *dice) step() script.Step {
	x := script.Step{
		Kind: 1 + d.next(12), CPU: d.next(256), Obj: d.next(65536), At: d.next(65536), N: d.next(65536),
		Policy: policy.Policy{Mode: d.next(4), Set: nodeset.Set(d.next(256)), Node: d.next(256)}, Told: d.next(2) == 0,
	}
	for range d.next(2) * d.next(256) {
		x.Bytes = append(x.Bytes, byte(d.next(256)))
	}
	return x
}

// P27.2: many scripts come back from their bytes, and no other bytes are read as what they aren't: if any bytes are
// read, then those steps are written so.
func TestManyScripts(t *testing.T) {
	d, read := dice(3), 0
	for range 500 {
		var l []script.Step
		for range d.next(8) {
			l = append(l, d.step())
		}
		back(t, l...)
		b, _ := trace.Write(l)
		for range 20 {
			other := slices.Clone(b)
			for range 1 + d.next(2) {
				if len(other) > 0 {
					other[d.next(len(other))] = byte(d.next(256))
				}
			}
			other = other[:len(other)-min(len(other), d.next(3)*d.next(2))]
			steps, e := trace.Read(other)
			if e != api.OK {
				noSteps(t, other)
				continue
			}
			read++
			if same, e := trace.Write(steps); !bytes.Equal(same, other) || e != api.OK {
				t.Fatalf("Read(%x) = %v, whose bytes are %x (%d)", other, steps, same, e)
			}
		}
	}
	if read < 1000 {
		t.Errorf("%d were read", read)
	}
}

// P27.1: long scripts.
func TestLongScript(t *testing.T) {
	d := dice(9)
	var l []script.Step
	for range 20000 {
		l = append(l, d.step())
	}
	back(t, l...)
	l[19999].CPU = 256
	noBytes(t, l...)
}

// P27.3: what is handed in isn't changed, its spare room neither, and not kept; answers are new memory.
func TestMemory(t *testing.T) {
	l := []script.Step{full(), full(), full()}
	l[0].Bytes = append(make([]byte, 0, 64), "xyz"...)
	b, _ := trace.Write(l[:2])
	if !equal(l[0], full()) || !equal(l[1], full()) || !equal(l[2], full()) || l[0].Bytes[:4][3] != 0 {
		t.Errorf("%v is changed", l)
	}
	was := slices.Clone(b)
	other, _ := trace.Write(l[:2])
	spoil(other)
	spoil(l[0].Bytes)
	if !bytes.Equal(b, was) {
		t.Errorf("%x shares memory", b)
	}
	room := append(slices.Clone(b), "spare room"...)
	steps, _ := trace.Read(room[:len(b)])
	if !bytes.Equal(room, append(slices.Clone(b), "spare room"...)) {
		t.Errorf("%x is changed", room)
	}
	more, _ := trace.Read(room[:len(b)])
	spoil(room)
	spoil(steps[0].Bytes)
	if !equal(steps[1], full()) || !equal(more[0], full()) || !equal(more[1], full()) {
		t.Errorf("%v, %v share memory", steps, more)
	}
	spoil(more[1].Bytes)
	if !equal(more[0], full()) {
		t.Errorf("%v shares memory", more)
	}
}

// P27.3: of a step without bytes nothing of what was read is kept.
func TestNoBytesShareNothing(t *testing.T) {
	b, _ := trace.Write([]script.Step{{Kind: script.Release}, {Kind: script.Release}})
	l, _ := trace.Read(b)
	if cap(l[0].Bytes) != 0 || cap(l[1].Bytes) != 0 {
		t.Errorf("%v has room", l)
	}
}

func spoil(b []byte) {
	b = b[:cap(b)]
	for i := range b {
		b[i] = 0xee
	}
}

func system(t *testing.T) *script.System {
	t.Helper()
	s, e := script.New(topo.Topo{Nodes: 2, Frames: 8, CPUs: []int{0, 1}, Dist: [][]int{{10, 20}, {20, 10}}}, heap.Marks{Low: 2, High: 3})
	if s == nil || e != api.OK {
		t.Fatalf("New = %v, %d", s, e)
	}
	return s
}

func plays(t *testing.T, s *script.System, l []script.Step, want []api.Errno, places []int) {
	t.Helper()
	if got, failed := trace.Play(s, l); !slices.Equal(got, want) || !slices.Equal(failed, places) {
		t.Errorf("Play(%v) = %v, %v, not %v, %v", l, got, failed, want, places)
	}
}

// P27.1: the Err of each step, and the places of those that failed.
func TestPlay(t *testing.T) {
	s := system(t)
	plays(t, s, nil, nil, nil)
	plays(t, s, []script.Step{{Kind: script.Release}}, []api.Errno{api.OK}, nil)
	plays(t, s, []script.Step{{Kind: 0}}, []api.Errno{api.ErrArg}, []int{0})
	plays(t, s, []script.Step{
		{Kind: script.Malloc, N: 100}, {Kind: script.Malloc, N: 0}, {Kind: script.Write, At: 98, Bytes: []byte("ab")},
		{Kind: script.Write, At: 99, Bytes: []byte("ab")}, {Kind: script.Read, Obj: 1}, {Kind: 13}, {Kind: script.Free, CPU: 2}, {Kind: script.Query},
	}, []api.Errno{api.OK, api.ErrSize, api.OK, api.ErrBound, api.ErrMiss, api.ErrArg, api.ErrCPU, api.OK}, []int{1, 3, 4, 5, 6})
	// The system goes on from where it was, and was told each step once.
	if r := s.Do(script.Step{Kind: script.Read, At: 97, N: 3}); r.Err != api.OK || string(r.Bytes) != "\x00ab" {
		t.Errorf("it has %v", r)
	}
	plays(t, s, []script.Step{{Kind: script.Free}, {Kind: script.Free}, {Kind: script.Malloc, N: 8}, {Kind: script.Free, Obj: 1}},
		[]api.Errno{api.OK, api.ErrBad, api.OK, api.OK}, []int{1})
}

// P27.1, P1: of a nil system, and of one that New didn't make, each step's Err is ErrArg.
func TestPlayWithoutSystem(t *testing.T) {
	for _, s := range []*script.System{nil, {}} {
		plays(t, s, nil, nil, nil)
		plays(t, s, []script.Step{}, nil, nil)
		plays(t, s, []script.Step{{Kind: script.Release}, full(), {Kind: 99}}, []api.Errno{api.ErrArg, api.ErrArg, api.ErrArg}, []int{0, 1, 2})
	}
}

// P27.1: what a script's bytes are read as plays as the script itself, as step by step.
func TestPlayOfBytes(t *testing.T) {
	d := dice(21)
	var l []script.Step
	for i := range 3000 {
		x := d.step()
		x.CPU, x.Obj, x.At, x.N = x.CPU%3, max(0, i/6-x.Obj%5), x.At%100, x.N%300
		x.Policy.Set, x.Policy.Node = x.Policy.Set%4, x.Policy.Node%3
		l = append(l, x)
	}
	b, _ := trace.Write(l)
	read, _ := trace.Read(b)
	var want []api.Errno
	var places []int
	alone, twin, other := system(t), system(t), system(t)
	for i, x := range l {
		e := alone.Do(x).Err
		want = append(want, e)
		if e != api.OK {
			places = append(places, i)
		}
	}
	if len(places) < 500 || len(places) > 2500 {
		t.Errorf("%d steps failed", len(places))
	}
	plays(t, twin, l, want, places)
	plays(t, other, read, want, places)
	if a, b := fmt.Sprint(alone.Machine().Live(), alone.Machine().Log().Events()), fmt.Sprint(other.Machine().Live(), other.Machine().Log().Events()); a != b {
		t.Errorf("%s, not %s", b, a)
	}
}

// P27.3: what Play is told isn't kept or changed, and what it answers is new memory.
func TestPlayMemory(t *testing.T) {
	s := system(t)
	text := append(make([]byte, 0, 8), "ab"...)
	l := []script.Step{{Kind: script.Malloc, N: 100}, {Kind: script.Write, Bytes: text}, {Kind: 0}}
	errs, failed := trace.Play(s, l[:2])
	if string(text[:3]) != "ab\x00" || l[0].Kind != script.Malloc || l[1].Kind != script.Write || l[2].Kind != 0 || len(failed) != 0 {
		t.Errorf("%v is changed", l)
	}
	spoil(text)
	if r := s.Do(script.Step{Kind: script.Read, N: 3}); string(r.Bytes) != "ab\x00" {
		t.Errorf("it has %q", r.Bytes)
	}
	more, places := trace.Play(s, []script.Step{{Kind: 0}, {Kind: 0}})
	last, lastPlaces := trace.Play(s, []script.Step{{Kind: 0}, {Kind: 0}})
	for i := range more {
		errs[i], more[i], places[i] = 99, 99, 99
	}
	if !slices.Equal(last, []api.Errno{api.ErrArg, api.ErrArg}) || !slices.Equal(lastPlaces, []int{0, 1}) {
		t.Errorf("%v, %v share memory", last, lastPlaces)
	}
}
