package regs

import (
	"math"
	"math/rand"
	"slices"
	"testing"

	"catnap/api"
)

// greatest is that of a register.
const greatest = math.MaxUint32

// edges are values at the bounds of 32 bits, with a sign or without, and two in their midst.
var edges = []uint32{0, 1, 5, 0x80000000, 0x7fffffff, 0xcafebabe, greatest - 1, greatest}

// farOut are numbers of no register; in 32 bits, or in 8, some of them would be.
var farOut = []int{-1, -2, -8, 8, 9, 16, 256, -256, 1 << 32, 1<<32 + 1, -1 << 32, 1<<32 - 1, 1 << 40, math.MaxInt, math.MinInt, math.MinInt + 1}

func keep(reset uint32) api.Reg { return api.Reg{Reset: reset, Retained: true} }
func lose(reset uint32) api.Reg { return api.Reg{Reset: reset} }

// act is one call that changes what registers are.
type act struct {
	name string
	i    int
	v    uint32
}

func write(i int, v uint32) act { return act{"write", i, v} }

var save, restore, clean = act{name: "save"}, act{name: "restore"}, act{name: "clear"}

// writes writes these values, one into each register, from the first on.
func writes(values ...uint32) []act {
	var acts []act
	for i, v := range values {
		acts = append(acts, write(i, v))
	}
	return acts
}

func do(f *File, a act) api.Errno {
	switch a.name {
	case "write":
		return f.Write(a.i, a.v)
	case "save":
		f.Save()
	case "restore":
		f.Restore()
	case "clear":
		f.Clear()
	}
	return api.OK
}

// slow are registers that keep nothing but what was done: what one is is looked for in that, from its end back.
type slow struct {
	regs []api.Reg
	done []act
}

// was is what a register was behind so many acts.
func (m *slow) was(i, behind int) uint32 {
	for n := behind - 1; n >= 0; n-- {
		switch a := m.done[n]; {
		case a.name == "write" && a.i == i:
			return a.v
		case a.name == "restore":
			return m.restored(i, n)
		case a.name == "clear":
			return m.regs[i].Reset
		}
	}
	return m.regs[i].Reset
}

// restored is what a Restore behind so many acts makes of a register.
func (m *slow) restored(i, behind int) uint32 {
	for n := behind - 1; n >= 0 && m.done[n] != clean; n-- {
		if m.done[n] == save && m.regs[i].Retained {
			return m.was(i, n)
		}
	}
	return m.regs[i].Reset
}

func (m *slow) do(a act) api.Errno {
	m.done = append(m.done, a)
	if a.name == "write" && (a.i < 0 || a.i >= len(m.regs)) {
		return api.ErrNode
	}
	return api.OK
}

// all is what each register is.
func (m *slow) all() []uint32 {
	var all []uint32
	for i := range m.regs {
		all = append(all, m.was(i, len(m.done)))
	}
	return all
}

func newFile(t *testing.T, l []api.Reg) *File {
	t.Helper()
	f, err := New(l)
	if f == nil || err != api.OK {
		t.Fatalf("New(%v) = %v, %d", l, f, err)
	}
	return f
}

// bench holds a file, act by act, against slow registers.
type bench struct {
	t    *testing.T
	file *File
	slow *slow
}

func newBench(t *testing.T, l ...api.Reg) *bench {
	t.Helper()
	b := &bench{t: t, file: newFile(t, l), slow: &slow{regs: slices.Clone(l)}}
	b.see()
	return b
}

// asked is what each register reads.
func (b *bench) asked() []uint32 {
	b.t.Helper()
	var all []uint32
	for i := range b.slow.regs {
		v, err := b.file.Read(i)
		if err != api.OK {
			b.t.Errorf("%v behind %v: Read(%d) told %d", b.slow.regs, b.slow.done, i, err)
		}
		all = append(all, v)
	}
	return all
}

// see asks how many registers there are, what all of them are, and those at both ends that are not there; twice, as to be asked changes nothing.
func (b *bench) see() {
	b.t.Helper()
	want, many := b.slow.all(), len(b.slow.regs)
	for range 2 {
		if got := b.file.Many(); got != many {
			b.t.Fatalf("%v behind %v: %d registers", b.slow.regs, b.slow.done, got)
		}
		if got := b.asked(); !slices.Equal(got, want) {
			b.t.Fatalf("%v behind %v: %v, want %v", b.slow.regs, b.slow.done, got, want)
		}
		b.none(-1, many)
	}
}

// none wants that numbers are no registers to be read.
func (b *bench) none(numbers ...int) {
	b.t.Helper()
	for _, i := range numbers {
		if v, err := b.file.Read(i); v != 0 || err != api.ErrNode {
			b.t.Errorf("%v behind %v: Read(%d) = %d, %d, want 0, ErrNode", b.slow.regs, b.slow.done, i, v, err)
		}
	}
}

// do does acts, and sees all behind each of them.
func (b *bench) do(acts ...act) {
	b.t.Helper()
	for _, a := range acts {
		got, want := do(b.file, a), b.slow.do(a)
		if got != want {
			b.t.Fatalf("%v: the last one of %v told %d, want %d", b.slow.regs, b.slow.done, got, want)
		}
		b.see()
	}
}

// are wants what the registers are.
func (b *bench) are(want ...uint32) {
	b.t.Helper()
	if got := b.asked(); !slices.Equal(got, want) {
		b.t.Errorf("%v: behind %v they are %v, want %v", b.slow.regs, b.slow.done, got, want)
	}
}

// become does acts, and wants what the registers are behind the last one.
func (b *bench) become(want []uint32, acts ...act) {
	b.t.Helper()
	b.do(acts...)
	b.are(want...)
}

func randomValue(r *rand.Rand) uint32 {
	if r.Intn(3) == 0 {
		return edges[r.Intn(len(edges))]
	}
	return r.Uint32()
}

// random has none to eight registers, Retained or not.
func random(r *rand.Rand) []api.Reg {
	l := make([]api.Reg, r.Intn(9))
	for i := range l {
		l[i] = api.Reg{Reset: randomValue(r), Retained: r.Intn(2) == 0}
	}
	return l
}

// randomAct is, mostly, one that writes a register of the file.
func randomAct(r *rand.Rand, many int) act {
	i := append(farOut, many)[r.Intn(len(farOut)+1)]
	if many > 0 && r.Intn(20) > 0 {
		i = r.Intn(many)
	}
	w := write(i, randomValue(r))
	return []act{w, w, w, w, save, restore, restore, clean}[r.Intn(8)]
}
