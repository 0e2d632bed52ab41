package regs

import (
	"math/rand"
	"testing"

	"catnap/api"
)

// J1: a file of none to eight registers has as many, in order, each of its Reset, and nothing is saved.
func TestNew(t *testing.T) {
	for many := range 9 {
		var l []api.Reg
		var want []uint32
		for i := range many {
			reset := edges[7-i]
			l = append(l, api.Reg{Reset: reset, Retained: i%2 == 0})
			want = append(want, reset)
		}
		b := newBench(t, l...)
		b.are(want...)
		b.become(want, restore) // nothing is saved
		if got := b.file.Many(); got != many {
			t.Errorf("%d registers, want %d", got, many)
		}
	}
}

// J1: a file of nothing, be it nil or empty: there are no registers, and nothing becomes of them.
func TestNewOfNothing(t *testing.T) {
	for _, l := range [][]api.Reg{nil, {}, make([]api.Reg, 0, 8)} {
		b := newBench(t, l...)
		for range 3 {
			b.do(save, restore, clean, restore, write(0, 1), save)
			b.none(append(farOut, 0, 1)...)
		}
	}
}

// J1: of more than eight registers there is no file, but just ErrFull, however many, and whatever they are.
func TestNewOfTooMany(t *testing.T) {
	for _, many := range []int{9, 10, 15, 16, 17, 255, 256, 257, 264, 1 << 16, 1<<16 + 1, 1 << 20} {
		for _, like := range []api.Reg{{}, keep(0), lose(greatest), keep(greatest)} {
			l := make([]api.Reg, many)
			for i := range l {
				l[i] = like
			}
			if f, err := New(l); f != nil || err != api.ErrFull {
				t.Errorf("New of %d = %v, %d, want no file, ErrFull", many, f, err)
			}
		}
	}
	// as many as there may be, cut out of more
	l := make([]api.Reg, 20)
	newBench(t, l[6:14]...).do(writes(edges...)...)
}

// J1: each register, and no other one, is what was written into it last.
func TestWrite(t *testing.T) {
	for many := range 9 {
		l := make([]api.Reg, many)
		for i := range l {
			l[i] = api.Reg{Reset: 77, Retained: i%3 == 0}
		}
		for i := range many {
			b := newBench(t, l...)
			want := b.asked()
			for _, v := range edges {
				want[i] = v
				b.become(want, write(i, v))
				b.become(want, write(i, v))
			}
		}
		b := newBench(t, l...)
		want := b.asked()
		for i := many - 1; i >= 0; i-- {
			want[i] = uint32(i + 1)
			b.become(want, write(i, want[i]))
		}
	}
}

// J1: a number that is no register is neither read nor written, whatever else is so, and changes nothing, of what is saved neither.
func TestNoRegister(t *testing.T) {
	for many := range 9 {
		l := make([]api.Reg, many)
		for i := range l {
			l[i] = keep(9)
		}
		for _, ahead := range [][]act{nil, {save}, {restore}, {save, restore}, {save, clean}} {
			b := newBench(t, l...)
			b.do(writes(edges[:many]...)...)
			b.do(ahead...)
			want := b.asked()
			for _, i := range append(farOut, many, many+1, many+2, 7, 8) {
				if i >= 0 && i < many {
					continue
				}
				b.none(i)
				for _, v := range edges {
					if err := b.file.Write(i, v); err != api.ErrNode {
						t.Errorf("Write(%d, %d) of %d told %d, want ErrNode", i, v, many, err)
					}
				}
				b.are(want...)
				b.see()
			}
			b.do(restore)
		}
	}
}

// J1, J2: the chapter's example.
func TestExample(t *testing.T) {
	f := newFile(t, []api.Reg{{Reset: 5, Retained: true}})
	wrote := f.Write(0, 7)
	f.Save()
	wrote |= f.Write(0, 9)
	f.Restore()
	if v, err := f.Read(0); v != 7 || err != api.OK || wrote != api.OK {
		t.Error(v, err, wrote)
	}
}

// J1 to J3: a file of four registers, act by act.
func TestOrdinary(t *testing.T) {
	b := newBench(t, keep(5), lose(6), lose(7), keep(8))
	b.are(5, 6, 7, 8)
	b.do(write(0, 50), write(2, 70), write(3, 80))
	b.are(50, 6, 70, 80)
	b.do(save)
	b.are(50, 6, 70, 80)
	b.do(write(0, 51), write(1, 61))
	b.are(51, 61, 70, 80)
	b.do(restore)
	b.are(50, 6, 7, 80)
	b.do(write(3, 82), write(1, 62), save, write(3, 83))
	b.are(50, 62, 7, 83)
	b.do(restore)
	b.are(50, 6, 7, 82)
	b.do(restore)
	b.are(50, 6, 7, 82)
	b.do(write(0, 54), clean)
	b.are(5, 6, 7, 8)
	b.do(write(0, 55), write(1, 65), restore)
	b.are(5, 6, 7, 8)
	b.do(write(0, 56), write(1, 66), save, clean, save, write(3, 86), restore)
	b.are(5, 6, 7, 8)
}

// J1, J2: files of all kinds, with many acts, wrong ones among them.
func TestRandom(t *testing.T) {
	r := rand.New(rand.NewSource(9))
	for range 3000 {
		l := random(r)
		b := newBench(t, l...)
		for range 60 {
			b.do(randomAct(r, len(l)))
		}
	}
}

// J1, J2: all rows of acts, up to a length, of five small files.
func TestAllRows(t *testing.T) {
	all := []act{save, restore, clean}
	for _, c := range []struct {
		long int
		acts []act
		regs []api.Reg
	}{
		{7, all, nil},
		{7, append(all, write(0, 1), write(0, 2)), []api.Reg{keep(5)}},
		{7, append(all, write(0, 1), write(0, 2)), []api.Reg{lose(5)}},
		{6, append(all, write(0, 1), write(1, 1), write(0, 0)), []api.Reg{keep(5), lose(6)}},
		{6, append(all, write(0, 1), write(1, 2), write(2, 3)), []api.Reg{lose(greatest), keep(0), keep(greatest)}},
	} {
		rows := 1
		for range c.long {
			rows *= len(c.acts)
		}
		for row := range rows {
			b := &bench{t: t, file: newFile(t, c.regs), slow: &slow{regs: c.regs}}
			for left := row; len(b.slow.done) < c.long; left /= len(c.acts) {
				b.do(c.acts[left%len(c.acts)])
			}
		}
	}
}

// J3: whatever was done ahead, what is Retained reads, saved, cleared of nothing, and restored, what was written last ahead of Save, all else its Reset.
func TestKept(t *testing.T) {
	r := rand.New(rand.NewSource(10))
	for range 3000 {
		l := random(r)
		f := newFile(t, l)
		for range r.Intn(30) {
			do(f, randomAct(r, len(l)))
		}
		want := make([]uint32, len(l))
		for range 3 {
			for _, i := range r.Perm(len(l)) {
				want[i] = randomValue(r)
				f.Write(i, want[i])
			}
		}
		f.Save()
		for range r.Intn(30) {
			if a := randomAct(r, len(l)); a != save && a != clean {
				do(f, a)
			}
		}
		f.Restore()
		for i, reg := range l {
			if !reg.Retained {
				want[i] = reg.Reset
			}
			if got, err := f.Read(i); got != want[i] || err != api.OK {
				t.Fatalf("%v: register %d is %d, %d, want %d", l, i, got, err, want[i])
			}
		}
	}
}
