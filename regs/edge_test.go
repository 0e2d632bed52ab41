package regs

import (
	"math/rand"
	"slices"
	"testing"

	"catnap/api"
)

// J1, J2, J3: values of 0 and of the greatest, and Resets of these, are values as all others, saved or not.
func TestValuesAtBounds(t *testing.T) {
	for _, reset := range edges {
		for _, first := range edges {
			for _, then := range edges {
				b := newBench(t, keep(reset), lose(reset))
				b.become([]uint32{first, first}, writes(first, first)...)
				b.become([]uint32{first, first}, save)
				b.become([]uint32{then, then}, writes(then, then)...)
				b.become([]uint32{first, reset}, restore)
				b.become([]uint32{then, then}, writes(then, then)...)
				b.become([]uint32{reset, reset}, clean)
				b.become([]uint32{first, first}, writes(first, first)...)
				b.become([]uint32{reset, reset}, restore)
			}
		}
	}
}

// J2: where nothing was saved, all registers are their Reset behind Restore, once and again, with writes between or without.
func TestNothingSaved(t *testing.T) {
	b := newBench(t, keep(5), lose(6), keep(greatest), lose(0))
	resets := []uint32{5, 6, greatest, 0}
	b.become(resets, restore)
	b.become(resets, restore, restore)
	for range 3 {
		b.become([]uint32{1, 2, 3, 4}, writes(1, 2, 3, 4)...)
		b.become(resets, restore)
		b.become(resets, restore)
	}
	b.become([]uint32{0, 6, greatest, greatest}, write(0, 0), write(3, greatest))
	b.become(resets, restore)
}

// J2: Save changes no register; of what is written behind it nothing is saved.
func TestSaveChangesNone(t *testing.T) {
	b := newBench(t, keep(5), lose(6), keep(7))
	b.become([]uint32{5, 6, 7}, save, save)
	b.become([]uint32{1, 2, 7}, write(0, 1), write(1, 2), save)
	b.become([]uint32{9, 9, 9}, writes(9, 9, 9)...)
	b.become([]uint32{1, 6, 7}, restore)
}

// J2: what is saved takes the place of what was, with writes between, and without; of a register that was not written it is what that is.
func TestSaveTwice(t *testing.T) {
	b := newBench(t, keep(5), lose(6), keep(7))
	b.do(writes(1, 1, 1)...)
	b.do(save, write(0, 2), write(1, 2), save)
	b.become([]uint32{3, 3, 3}, writes(3, 3, 3)...)
	b.become([]uint32{2, 6, 1}, restore)
	b.become([]uint32{2, 6, 1}, save, save, restore)
	// back to what was saved at first, to 0, and to the Reset
	b.become([]uint32{1, 6, 1}, write(0, 1), save, write(0, 4), restore)
	b.become([]uint32{0, 6, 0}, write(0, 0), write(2, 0), save, write(0, 4), restore)
	b.become([]uint32{5, 6, 7}, append(writes(5, 6, 7), save, write(0, 4), write(2, 4), restore)...)
	for v := range uint32(300) {
		b.do(writes(v, v, v+1)...)
		b.do(save)
	}
	b.become([]uint32{299, 6, 300}, append(writes(4, 4, 4), restore)...)
}

// J2: what was saved is restored as often as it is asked for, whatever is written between.
func TestRestoreTwice(t *testing.T) {
	b := newBench(t, keep(5), lose(6), keep(7))
	b.do(append(writes(1, 2, 3), save)...)
	b.become([]uint32{1, 6, 3}, restore)
	b.become([]uint32{1, 6, 3}, restore)
	for v := range uint32(10) {
		b.become([]uint32{v, v, v}, writes(v, v, v)...)
		b.become([]uint32{1, 6, 3}, restore)
		b.become([]uint32{1, 6, 3}, restore)
	}
	b.become([]uint32{1, greatest, 3}, write(1, greatest))
	b.become([]uint32{1, 6, 3}, restore)
}

// J2: what was restored, and written since, is what the next Save saves.
func TestSaveBehindRestore(t *testing.T) {
	b := newBench(t, keep(5), lose(6), keep(7))
	b.do(append(writes(1, 2, 3), save, write(0, 9), restore, save)...)
	b.become([]uint32{1, 6, 3}, append(writes(4, 4, 4), restore)...)
	b.do(write(2, 8), save)
	b.become([]uint32{1, 6, 8}, append(writes(4, 4, 4), restore)...)
	// nothing was saved, but now what Restore made of it is
	b = newBench(t, keep(5), lose(6))
	b.do(append(writes(1, 1), restore, save)...)
	b.become([]uint32{5, 6}, append(writes(2, 2), restore)...)
}

// J2: Clear makes all of the registers their Reset, and what was saved, once or oftener, is saved no more.
func TestClear(t *testing.T) {
	for _, ahead := range [][]act{nil, {save}, {save, save}, {save, write(0, 2), save}, {save, restore}, {restore}, {save, clean}, {clean, save}, {save, clean, restore}} {
		b := newBench(t, keep(5), lose(6), keep(0))
		b.do(writes(1, 2, 3)...)
		b.do(ahead...)
		b.become([]uint32{5, 6, 0}, clean)
		b.become([]uint32{5, 6, 0}, restore)
		b.become([]uint32{7, 8, 9}, writes(7, 8, 9)...)
		b.become([]uint32{5, 6, 0}, restore)
		b.become([]uint32{7, 8, 9}, writes(7, 8, 9)...)
		b.become([]uint32{5, 6, 0}, clean)
		b.become([]uint32{5, 6, 0}, clean, restore, restore)
	}
}

// J2: behind Clear all is as it was behind New: what is saved then is restored.
func TestSaveBehindClear(t *testing.T) {
	for _, ahead := range [][]act{nil, {clean}, {write(0, 3), write(1, 3), clean}, {write(0, 3), save, clean}, {write(0, 3), save, restore, clean, clean}} {
		b := newBench(t, keep(5), lose(6), keep(0))
		b.do(ahead...)
		b.become([]uint32{5, 6, 0}, save)
		b.become([]uint32{1, 2, 9}, writes(1, 2, 9)...)
		b.become([]uint32{5, 6, 0}, restore)
		b.do(write(0, 4), write(1, 4), save, clean, write(2, greatest), save)
		b.become([]uint32{8, 8, 8}, writes(8, 8, 8)...)
		b.become([]uint32{5, 6, greatest}, restore)
	}
}

// J2: a register that is not Retained is its Reset behind each Restore and Clear, whatever was saved of others, wherever it stands.
func TestNotRetained(t *testing.T) {
	for place := range 8 {
		l := make([]api.Reg, 8)
		for i := range l {
			l[i] = keep(uint32(i))
		}
		l[place] = lose(99)
		b := newBench(t, l...)
		for _, acts := range [][]act{{restore}, {save, restore}, {restore}, {save, save, restore}, {clean}, {save, clean, restore}, {clean, save, restore}, {save, restore, restore}} {
			b.do(append(writes(11, 12, 13, 14, 15, 16, 17, 18), acts...)...)
			if v, err := b.file.Read(place); v != 99 || err != api.OK {
				t.Errorf("register %d is %d, %d behind %v", place, v, err, acts)
			}
		}
	}
}

// J1, J2, J3: files of one to eight registers of which any are Retained, from none to all of them.
func TestEachSetRetained(t *testing.T) {
	for many := range 9 {
		for bits := range 1 << many {
			var l []api.Reg
			var resets, first, kept, later []uint32
			for i := range many {
				n := uint32(i)
				r := api.Reg{Reset: 10 + n, Retained: bits>>i&1 == 1}
				l = append(l, r)
				resets, first, later = append(resets, 10+n), append(first, 20+n), append(later, 30+n)
				if r.Retained {
					kept = append(kept, 20+n)
				} else {
					kept = append(kept, 10+n)
				}
			}
			b := newBench(t, l...)
			b.become(first, writes(first...)...)
			b.become(first, save)
			b.become(later, writes(later...)...)
			b.become(kept, restore)
			b.become(later, writes(later...)...)
			b.become(kept, restore)
			b.become(resets, clean)
			b.become(resets, restore)
		}
	}
}

// padded is a copy of a list that has more behind its length; and what tells whether that is still so.
func padded(l []api.Reg) ([]api.Reg, func() bool) {
	all := append(slices.Clone(l), keep(1234), keep(1234))
	return all[:len(l)], func() bool {
		return all[len(all)-1] == keep(1234) && all[len(all)-2] == keep(1234)
	}
}

// P3: a list that is written over, or appended to, later changes no file, and no file writes into it, or behind it.
func TestListIsNotKept(t *testing.T) {
	r := rand.New(rand.NewSource(11))
	for range 500 {
		kept := random(r)
		handed, behind := padded(kept)
		b := newBench(t, handed...)
		for range 20 {
			b.do(randomAct(r, len(kept)))
		}
		if !slices.Equal(handed, kept) || !behind() {
			t.Fatalf("%v was written into, it was %v", handed, kept)
		}
		for i := range handed {
			handed[i] = api.Reg{Reset: ^handed[i].Reset, Retained: !handed[i].Retained}
		}
		handed = append(handed, keep(1)) // into what lay behind it
		over := slices.Clone(handed)
		b.see()
		for range 20 {
			b.do(randomAct(r, len(kept)))
		}
		if !slices.Equal(handed, over) {
			t.Fatalf("%v was written into, it was %v", handed, over)
		}
	}
}

// P3: the Reset and Retained that count are those of New, at each later act.
func TestListWrittenOver(t *testing.T) {
	l := []api.Reg{keep(5), lose(6), keep(7)}
	b := newBench(t, l...)
	b.do(append(writes(1, 2, 3), save)...)
	l[0], l[1], l[2] = lose(50), keep(60), lose(70)
	b.become([]uint32{1, 2, 3})
	b.become([]uint32{1, 6, 3}, restore)
	b.become([]uint32{5, 6, 7}, clean)
	b.do(append(writes(7, 8, 9), save)...)
	l[0], l[1], l[2] = lose(51), keep(61), lose(71)
	b.become([]uint32{7, 6, 9}, restore)
	l = append(l[:1], keep(1), keep(2), keep(3))
	b.become([]uint32{7, 6, 9}, save, restore)
	b.become([]uint32{5, 6, 7}, clean)
}

// P3, P4: files of one list know nothing of one another, and do the same by the same acts.
func TestFilesOfOne(t *testing.T) {
	r := rand.New(rand.NewSource(12))
	for range 300 {
		l := random(r)
		all := []*bench{newBench(t, l...), newBench(t, l...), newBench(t, l...)}
		for range 60 {
			all[r.Intn(2)].do(randomAct(r, len(l)))
			for _, b := range all {
				b.see()
			}
		}
		again := newBench(t, l...)
		again.do(all[0].slow.done...)
		if got, want := again.asked(), all[0].asked(); !slices.Equal(got, want) {
			t.Errorf("%v behind %v: %v, the first time %v", l, all[0].slow.done, got, want)
		}
		all[2].do(append(writes(edges[:len(l)]...), restore)...)
	}
}

// J2: of two files, what one saves, restores, or clears is not seen in the other.
func TestTwoFiles(t *testing.T) {
	l := []api.Reg{keep(5), lose(6)}
	first, second := newBench(t, l...), newBench(t, l...)
	first.become([]uint32{1, 1}, append(writes(1, 1), save)...)
	second.become([]uint32{5, 6})
	second.become([]uint32{5, 6}, restore)
	second.become([]uint32{2, 2}, append(writes(2, 2), save)...)
	first.become([]uint32{1, 6}, write(0, 3), restore)
	second.become([]uint32{2, 2})
	first.become([]uint32{5, 6}, clean)
	second.become([]uint32{2, 6}, write(0, 3), restore)
	first.become([]uint32{5, 6}, write(0, 4), restore)
}
