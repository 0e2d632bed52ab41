package conf

import (
	"fmt"
	"math"
	"math/rand"
	"reflect"
	"slices"
	"testing"

	"catnap/api"
)

func seeGraphs(t *testing.T, s api.Soc, clocks, domains, needs [][]int) {
	t.Helper()
	for _, c := range []struct {
		name      string
		got, want [][]int
	}{{"Clocks", Clocks(s), clocks}, {"Domains", Domains(s), domains}, {"Needs", Needs(s), needs}} {
		if !slices.EqualFunc(c.got, c.want, slices.Equal[[]int]) {
			t.Errorf("%s(%s) = %v, want %v", c.name, show(s), c.got, c.want)
		}
	}
}

func seeSame(t *testing.T, a, b api.Soc, want bool) {
	t.Helper()
	if Same(a, b) != want || Same(b, a) != want {
		t.Errorf("Same of %s and %s, and back = %t, %t, want %t", show(a), show(b), Same(a, b), Same(b, a), want)
	}
}

// asked asks for all that there is to be asked of a chip.
func asked(s api.Soc) string {
	return fmt.Sprint(Check(s), Clocks(s), Domains(s), Needs(s), Same(s, s), show(Copy(s)))
}

// sharing is a right one whose rows are all pieces of a few.
func sharing() api.Soc {
	from, regs, clocks := []int{0, 0, 0, 0}, make([]api.Reg, 8), make([]api.Clock, 4)
	for i := range clocks {
		clocks[i] = api.Clock{Kind: 'm', From: from[:i]}
	}
	clocks[0] = api.Clock{Kind: 'o', Rate: 1, From: from[:0]}
	devices := []api.Device{{}, {Regs: regs[:2], Needs: from[:2]}, {Regs: regs, Needs: from}, {Regs: regs[1:3], Needs: from[1:3]}}
	return api.Soc{Clocks: clocks, Domains: []api.Domain{{Above: -1}}, Resets: make([]api.Reset, 1), Devices: devices}
}

// D1: what hangs on what, in order, with all that is said more than once.
func TestGraphs(t *testing.T) {
	seeGraphs(t, chip(), [][]int{{}, {0}, {0, 1}, {2}, {3}, {0}, {}}, [][]int{{}, {0}, {1}}, [][]int{{1, 2, 1}, {2}, {}})
	seeGraphs(t, oneOfEach(), [][]int{{}}, [][]int{{}}, [][]int{{}})
	seeGraphs(t, api.Soc{}, nil, nil, nil)
	seeGraphs(t, sharing(), [][]int{{}, {0}, {0, 0}, {0, 0, 0}}, [][]int{{}}, [][]int{{}, {0, 0}, {0, 0, 0, 0}, {0, 0}})
}

// D1: of chips that are not right, too; nothing is a domain above but NoNode.
func TestGraphsOfWrong(t *testing.T) {
	s := api.Soc{
		Clocks:  []api.Clock{{Kind: 'o', From: []int{5, -1, 5}}, {Kind: 'x', From: []int{1}}, {From: []int{math.MinInt, math.MaxInt, 0, 0, 0, 0}}},
		Domains: []api.Domain{{Above: -2}, {Above: 0}, {Above: -1}, {Above: 99}, {Above: math.MinInt}, {Above: math.MaxInt}, {Above: 6}, {Above: -1 << 32}},
		Devices: []api.Device{{Needs: []int{0, math.MinInt}}, {}, {Needs: []int{9, 8, 7, 6, 5, 4, 3}}},
	}
	seeGraphs(t, s,
		[][]int{{5, -1, 5}, {1}, {math.MinInt, math.MaxInt, 0, 0, 0, 0}},
		[][]int{{-2}, {0}, {}, {99}, {math.MinInt}, {math.MaxInt}, {6}, {-1 << 32}},
		[][]int{{0, math.MinInt}, {}, {9, 8, 7, 6, 5, 4, 3}})
}

// D1: Same of what is, and of what is copied.
func TestSame(t *testing.T) {
	r := rand.New(rand.NewSource(5))
	chips := []api.Soc{{}, chip(), oneOfEach(), sharing()}
	for range 20 {
		chips = append(chips, randomChip(r))
	}
	for i, a := range chips {
		for j, b := range chips {
			seeSame(t, a, b, i == j)
			seeSame(t, a, Copy(b), i == j)
			seeSame(t, Copy(a), Copy(b), i == j)
		}
		if show(Copy(a)) != show(a) {
			t.Errorf("Copy(%s) = %s", show(a), show(Copy(a)))
		}
	}
}

// D1: each number changed, also one that a Kind has no use for, is another chip; the one that was copied stays as it was.
func TestEachNumberIsLookedAtAndCopied(t *testing.T) {
	for _, original := range []api.Soc{chip(), sharing(), padded(chip())} {
		was := whole(original)
		for i := range numbers(&original) {
			c := Copy(original)
			change(numbers(&c)[i])
			seeSame(t, original, c, false)
			differ := 0
			for j, v := range numbers(&c) {
				if v.Interface() != numbers(&original)[j].Interface() {
					differ++
				}
			}
			if differ != 1 || whole(original) != was {
				t.Errorf("number %d changed in a copy: %s, of %s", i, show(c), show(original))
			}
		}
	}
}

// D1: each row that is longer, shorter, or turned round is another chip.
func TestEachRowIsLookedAt(t *testing.T) {
	was := chip()
	for i, row := range rows(&was) {
		c := chip()
		longer := rows(&c)[i]
		longer.Set(reflect.Append(longer, reflect.Zero(longer.Type().Elem())))
		seeSame(t, was, c, false)
		if row.Len() == 0 {
			continue
		}
		for _, shorter := range []reflect.Value{row.Slice(1, row.Len()), row.Slice(0, row.Len()-1), row.Slice(0, 0)} {
			c = chip()
			rows(&c)[i].Set(shorter)
			seeSame(t, was, c, false)
		}
		c = chip()
		turned, last := rows(&c)[i], row.Len()-1
		reflect.Swapper(turned.Interface())(0, last)
		seeSame(t, was, c, reflect.DeepEqual(row.Index(0).Interface(), row.Index(last).Interface()))
	}
	if show(was) != show(chip()) {
		t.Errorf("the chip is %s now", show(was))
	}
}

// D1, P5: rows of nothing are rows of no elements, each alone and all together; one of a part that is all 0 is neither.
func TestRowsOfNothing(t *testing.T) {
	bare := func(empty int) api.Soc {
		s := api.Soc{Clocks: make([]api.Clock, 1), Devices: make([]api.Device, 1)}
		for i, row := range rows(&s) {
			if row.Len() == 0 && empty>>i&1 == 1 {
				row.Set(reflect.MakeSlice(row.Type(), 0, i))
			}
		}
		return s
	}
	all := 1<<7 - 1
	for empty := range all + 1 {
		seeSame(t, bare(0), bare(empty), true)
		seeSame(t, bare(all), bare(empty), true)
		seeSame(t, bare(empty), Copy(bare(empty)), true)
	}
	none := api.Soc{Clocks: []api.Clock{}, Domains: []api.Domain{}, Resets: []api.Reset{}, Devices: []api.Device{}}
	seeSame(t, none, api.Soc{}, true)
	seeSame(t, Copy(none), Copy(api.Soc{}), true)
	for i := range 4 {
		s := api.Soc{}
		row := rows(&s)[i]
		row.Set(reflect.MakeSlice(row.Type(), 1, 1))
		seeSame(t, s, none, false)
		seeSame(t, s, api.Soc{}, false)
	}
}

// P3: nothing that is handed in is changed, and what lies behind a row's length is neither read nor written.
func TestNothingHandedInIsChanged(t *testing.T) {
	r := rand.New(rand.NewSource(6))
	for _, s := range []api.Soc{{}, chip(), oneOfEach(), sharing(), randomChip(r), randomChip(r)} {
		want := asked(s)
		p := padded(Copy(s))
		was := whole(p)
		for range 2 {
			if got := asked(p); got != want {
				t.Errorf("with more behind its rows %s is %s", want, got)
			}
			seeSame(t, s, p, true)
		}
		if whole(p) != was {
			t.Errorf("%s is %s now", was, whole(p))
		}
	}
}

// fill writes into a row up to its end, behind its length, too.
func fill(row []int) {
	row = row[:cap(row)]
	for i := range row {
		row[i] = -9
	}
}

// P3: no row that is answered is shared with what was handed in, or with another one, or with a later answer.
func TestRowsOfGraphsAreNew(t *testing.T) {
	for _, s := range []api.Soc{chip(), sharing(), padded(chip()), padded(sharing())} {
		was := whole(s)
		for _, graphOf := range []func(s api.Soc) [][]int{Clocks, Domains, Needs} {
			first := graphOf(s)
			for v := range first {
				g := graphOf(s)
				fill(g[v])
				for w := range g {
					if w != v && !slices.Equal(g[w], first[w]) {
						t.Errorf("row %d is %v, but row %d was written into", w, g[w], v)
					}
				}
				if !slices.EqualFunc(graphOf(s), first, slices.Equal[[]int]) {
					t.Errorf("%v is answered, was %v", graphOf(s), first)
				}
			}
		}
		if whole(s) != was {
			t.Errorf("the chip is %s now, was %s", whole(s), was)
		}
	}
}

// P3: what is written into any row of a copy, up to its end, is not seen in the chip, and what is written into the chip not in the copy.
func TestRowsOfCopiesAreNew(t *testing.T) {
	erase := func(s *api.Soc) {
		for _, row := range slices.Backward(rows(s)) { // the inner ones first, as the outer ones forget them
			end := row.Slice(0, row.Cap())
			for i := range end.Len() {
				end.Index(i).SetZero()
			}
		}
	}
	for _, s := range []api.Soc{chip(), sharing(), padded(chip())} {
		was, told := whole(s), show(s)
		c := Copy(s)
		erase(&c)
		if whole(s) != was {
			t.Errorf("the chip is %s now, was %s", whole(s), was)
		}
		c = Copy(s)
		erase(&s)
		if show(c) != told {
			t.Errorf("the copy is %s now, was %s", show(c), told)
		}
	}
}

// P1: rows of any length, and parts that are not right, are copied and held against each other, too.
func TestLongRows(t *testing.T) {
	const long = 1 << 16
	s := api.Soc{Clocks: make([]api.Clock, long), Domains: make([]api.Domain, long), Resets: make([]api.Reset, long), Devices: make([]api.Device, long)}
	s.Clocks[long-1].From, s.Devices[long-1].Needs, s.Devices[long-1].Regs = make([]int, long), make([]int, long), make([]api.Reg, long)
	c := Copy(s)
	if !Same(s, c) || len(Clocks(c)[long-1]) != long || len(Domains(c)) != long || len(Needs(c)[long-1]) != long {
		t.Errorf("a long chip is not copied")
	}
	for _, change := range []func(){
		func() { c.Clocks[long-1].From[long-1]++ }, func() { c.Devices[long-1].Needs[long-1]++ }, func() { c.Devices[long-1].Regs[long-1].Reset++ },
		func() { c.Domains[long-1].Delay++ }, func() { c.Resets[long-1].Least++ },
	} {
		c = Copy(s)
		if change(); Same(s, c) {
			t.Errorf("a change at the end of a long row is not seen")
		}
	}
}
