package conf

import (
	"fmt"
	"math"
	"math/rand"
	"reflect"
	"slices"
	"testing"

	"catnap/api"
)

// farOut are numbers that are right for nothing; in 32 bits some of them would be.
var farOut = []int{-2, -100, 1001, 1 << 32, 1<<32 + 1, -1 << 32, 1<<32 - 1, math.MaxInt, math.MaxInt - 1, math.MinInt, math.MinInt + 1}

// chip is a right one: clocks of all kinds, a chain of domains, devices with registers and needs.
func chip() api.Soc {
	return api.Soc{
		Clocks: []api.Clock{
			{Kind: 'o', Rate: 19200000},
			{Kind: 'p', From: []int{0}, Mul: 125, Div: 2, Lock: 3},
			{Kind: 'm', From: []int{0, 1}},
			{Kind: 'd', From: []int{2}, Div: 4},
			{Kind: 'g', From: []int{3}},
			{Kind: 'g', From: []int{0}},
			{Kind: 'o', Rate: 32768},
		},
		Domains: []api.Domain{{Above: -1, Delay: 2, Ret: true}, {Above: 0, Delay: 1}, {Above: 1}},
		Resets:  []api.Reset{{Least: 5}, {}},
		Devices: []api.Device{
			{Clock: 4, Domain: 2, Reset: 1, Clamp: 0xdead, Regs: []api.Reg{{Reset: 1, Retained: true}, {Reset: 2}}, Needs: []int{1, 2, 1}},
			{Clock: 3, Domain: 0, Reset: 0, Needs: []int{2}},
			{Clock: 6, Domain: 1, Reset: 1, Regs: []api.Reg{{Reset: 7}}},
		},
	}
}

// oneOfEach has one part of each kind but for those that its clock comes from; all its parts can be had more often.
func oneOfEach() api.Soc {
	return api.Soc{Clocks: []api.Clock{{Kind: 'o', Rate: 1}}, Domains: []api.Domain{{Above: -1}}, Resets: make([]api.Reset, 1), Devices: make([]api.Device, 1)}
}

// show tells all of a chip, a row of nothing like one of no elements.
func show(s api.Soc) string { return fmt.Sprintf("%+v", s) }

// walk goes through all numbers, and through all rows, each of which can be set.
func walk(v reflect.Value, number, row func(v reflect.Value)) {
	switch v.Kind() {
	case reflect.Struct:
		for i := range v.NumField() {
			walk(v.Field(i), number, row)
		}
	case reflect.Slice:
		row(v)
		for i := range v.Len() {
			walk(v.Index(i), number, row)
		}
	default:
		number(v)
	}
}

func numbers(s *api.Soc) []reflect.Value {
	var all []reflect.Value
	walk(reflect.ValueOf(s).Elem(), func(v reflect.Value) { all = append(all, v) }, func(reflect.Value) {})
	return all
}

func rows(s *api.Soc) []reflect.Value {
	var all []reflect.Value
	walk(reflect.ValueOf(s).Elem(), func(reflect.Value) {}, func(v reflect.Value) { all = append(all, v) })
	return all
}

// change makes a number another one.
func change(v reflect.Value) {
	switch {
	case v.CanInt():
		v.SetInt(v.Int() + 1)
	case v.CanUint():
		v.SetUint(v.Uint() + 1)
	default:
		v.SetBool(!v.Bool())
	}
}

// padded is a chip whose rows each have two elements behind their length, which are not there; the one it is made of is used up.
func padded(s api.Soc) api.Soc {
	for _, row := range slices.Backward(rows(&s)) { // the inner ones first, as the outer ones are copied
		long := reflect.MakeSlice(row.Type(), row.Len()+2, row.Len()+2)
		reflect.Copy(long, row)
		for i := row.Len(); i < long.Len(); i++ {
			walk(long.Index(i), change, func(reflect.Value) {})
		}
		row.Set(long.Slice(0, row.Len()))
	}
	return s
}

// whole tells all of a chip, and what lies behind the lengths of its rows.
func whole(s api.Soc) string {
	told := show(s)
	for _, row := range rows(&s) {
		told += fmt.Sprintf("\n%+v", row.Slice(0, row.Cap()))
	}
	return told
}

// seeCheck holds Check, and the slow one with it, against what is wanted.
func seeCheck(t *testing.T, s api.Soc, want api.Errno) {
	t.Helper()
	if got := Check(s); got != want {
		t.Errorf("Check(%s) = %d, want %d", show(s), got, want)
	}
	if got := slowCheck(s); got != want {
		t.Errorf("slowCheck(%s) = %d, want %d", show(s), got, want)
	}
}

// slowCheck goes by the words of the document, one behind the other.
func slowCheck(s api.Soc) api.Errno {
	if len(s.Clocks) > 12 || len(s.Domains) > 6 || len(s.Resets) > 6 || len(s.Devices) > 6 {
		return api.ErrFull
	}
	for _, d := range s.Devices {
		if len(d.Regs) > 8 || len(d.Needs) > 6 {
			return api.ErrFull
		}
	}
	for _, c := range s.Clocks {
		if err := slowClock(s, c); err != api.OK {
			return err
		}
	}
	if slowCircle(len(s.Clocks), func(v, w int) bool { return slices.Contains(s.Clocks[v].From, w) }) {
		return api.ErrCycle
	}
	for _, d := range s.Domains {
		if d.Above < -1 || d.Above >= len(s.Domains) {
			return api.ErrNode
		}
		if d.Delay < 0 || d.Delay > 20 {
			return api.ErrRange
		}
	}
	if slowCircle(len(s.Domains), func(v, w int) bool { return s.Domains[v].Above == w }) {
		return api.ErrCycle
	}
	for _, r := range s.Resets {
		if r.Least < 0 || r.Least > 20 {
			return api.ErrRange
		}
	}
	for _, d := range s.Devices {
		if d.Clock < 0 || d.Clock >= len(s.Clocks) || d.Domain < 0 || d.Domain >= len(s.Domains) || d.Reset < 0 || d.Reset >= len(s.Resets) {
			return api.ErrNode
		}
		for _, v := range d.Needs {
			if v < 0 || v >= len(s.Devices) {
				return api.ErrNode
			}
		}
	}
	if slowCircle(len(s.Devices), func(v, w int) bool { return slices.Contains(s.Devices[v].Needs, w) }) {
		return api.ErrCycle
	}
	return api.OK
}

func slowClock(s api.Soc, c api.Clock) api.Errno {
	least, most, ranged := 1, 1, true
	switch c.Kind {
	case 'o':
		least, most = 0, 0
		ranged = c.Rate >= 1 && c.Rate <= 1<<40
	case 'p':
		ranged = c.Mul >= 1 && c.Mul <= 1000 && c.Div >= 1 && c.Div <= 1000 && c.Lock >= 0 && c.Lock <= 20
	case 'm':
		most = 4
	case 'd':
		ranged = c.Div >= 1 && c.Div <= 1000
	case 'g':
	default:
		return api.ErrArg
	}
	if len(c.From) < least || len(c.From) > most {
		return api.ErrArg
	}
	for _, v := range c.From {
		if v < 0 || v >= len(s.Clocks) {
			return api.ErrNode
		}
	}
	if !ranged {
		return api.ErrRange
	}
	return api.OK
}

// slowCircle tells whether one of so many nodes hangs on itself, by others, or at once.
func slowCircle(many int, hangs func(v, w int) bool) bool {
	var on [13][13]bool
	for v := range many {
		for w := range many {
			on[v][w] = hangs(v, w)
		}
	}
	for mid := range many {
		for v := range many {
			for w := range many {
				on[v][w] = on[v][w] || on[v][mid] && on[mid][w]
			}
		}
	}
	for v := range many {
		if on[v][v] {
			return true
		}
	}
	return false
}

// ahead are so many of those that stand ahead of place i in a mixed row.
func ahead(r *rand.Rand, mixed []int, i, many int) []int {
	var some []int
	for range many {
		some = append(some, mixed[r.Intn(i)])
	}
	return some
}

// randomClock is a right one that comes from those ahead of place i in a mixed row.
func randomClock(r *rand.Rand, mixed []int, i int) api.Clock {
	c := api.Clock{Kind: "opmdg"[r.Intn(5)], Rate: 1 + uint64(r.Int63n(1<<40)), Mul: 1 + r.Intn(1000), Div: 1 + r.Intn(1000), Lock: r.Intn(21)}
	switch {
	case i == 0:
		c.Kind = 'o'
	case c.Kind == 'm':
		c.From = ahead(r, mixed, i, 1+r.Intn(4))
	case c.Kind != 'o':
		c.From = ahead(r, mixed, i, 1)
	}
	return c
}

// randomChip is a right one, with at least one part of each kind.
func randomChip(r *rand.Rand) api.Soc {
	s := api.Soc{Clocks: make([]api.Clock, 1+r.Intn(12)), Domains: make([]api.Domain, 1+r.Intn(6)), Resets: make([]api.Reset, 1+r.Intn(6)), Devices: make([]api.Device, 1+r.Intn(6))}
	mixed := r.Perm(len(s.Clocks))
	for i, v := range mixed {
		s.Clocks[v] = randomClock(r, mixed, i)
	}
	mixed = r.Perm(len(s.Domains))
	for i, v := range mixed {
		s.Domains[v] = api.Domain{Above: -1, Delay: r.Intn(21), Ret: r.Intn(2) == 0}
		if i > 0 && r.Intn(3) > 0 {
			s.Domains[v].Above = ahead(r, mixed, i, 1)[0]
		}
	}
	for i := range s.Resets {
		s.Resets[i].Least = r.Intn(21)
	}
	mixed = r.Perm(len(s.Devices))
	for i, v := range mixed {
		d := api.Device{Clock: r.Intn(len(s.Clocks)), Domain: r.Intn(len(s.Domains)), Reset: r.Intn(len(s.Resets)), Clamp: r.Uint32()}
		for range r.Intn(9) {
			d.Regs = append(d.Regs, api.Reg{Reset: r.Uint32(), Retained: r.Intn(2) == 0})
		}
		if i > 0 {
			d.Needs = ahead(r, mixed, i, r.Intn(7))
		}
		s.Devices[v] = d
	}
	return s
}
