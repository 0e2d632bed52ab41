package power

import (
	"fmt"
	"math"
	"math/rand"
	"slices"
	"testing"

	"catnap/api"
)

// farOut are numbers of no domain; in 32 bits, or in 8, some of them would be.
var farOut = []int{-1, -2, -6, 6, 7, 256, -256, 1 << 32, 1<<32 + 1, -1 << 32, 1<<32 - 1, math.MaxInt, math.MinInt, math.MinInt + 1}

// dom is a domain that can be retained, bare one that can't.
func dom(above, delay int) api.Domain  { return api.Domain{Above: above, Delay: delay, Ret: true} }
func bare(above, delay int) api.Domain { return api.Domain{Above: above, Delay: delay} }

func soc(domains ...api.Domain) api.Soc { return api.Soc{Domains: domains} }

// act is one call that changes what domains do.
type act struct {
	name string
	d    int
}

func up(d int) act   { return act{"up", d} }
func keep(d int) act { return act{"keep", d} }
func lose(d int) act { return act{"lose", d} }

// ticks are so many of them; tick is one.
func ticks(many int) []act { return slices.Repeat([]act{tick}, many) }

var tick = act{name: "tick"}

// live are the acts that make domains LIVE, one behind the other.
func live(s api.Soc, all ...int) []act {
	var acts []act
	for _, d := range all {
		acts = append(append(acts, up(d)), ticks(s.Domains[d].Delay+2)...)
	}
	return acts
}

// join is all acts behind one another.
func join(rows ...[]act) []act { return slices.Concat(rows...) }

func do(g *Grid, a act) ([]Event, api.Errno) {
	switch a.name {
	case "up":
		return nil, g.Up(a.d)
	case "keep":
		return nil, g.Down(a.d, true)
	case "lose":
		return nil, g.Down(a.d, false)
	}
	return g.Tick(), api.OK
}

// moved is what a domain did last, by a letter (0: nothing yet; 'n' up from OFF, 'r' up from RET; 's' down and keep, 'l' down and lose), and how many ticks ago; all that is long past is as many.
type moved struct {
	how byte
	ago int
}

// slow is a grid that knows no phases: it reckons them from what was done when.
type slow struct {
	domains []api.Domain
	moved   [6]moved
}

func newSlow(s api.Soc) *slow { return &slow{domains: slices.Clone(s.Domains)} }

func (m *slow) rises(d int) bool { return m.moved[d].how == 'n' || m.moved[d].how == 'r' }

func (m *slow) phase(d int) byte {
	c, delay := m.moved[d], m.domains[d].Delay
	switch {
	case m.rises(d) && c.ago <= delay:
		return 'r'
	case m.rises(d) && c.ago == delay+1:
		return 'h'
	case m.rises(d):
		return '1'
	case c.how != 0 && c.ago == 0:
		return 'c'
	case c.how == 's':
		return 't'
	}
	return '0'
}

func (m *slow) left(d int) int {
	if m.phase(d) != 'r' {
		return 0
	}
	return m.domains[d].Delay - m.moved[d].ago
}

func (m *slow) chain(d int) []int {
	if m.domains[d].Above == -1 {
		return []int{d}
	}
	return append(m.chain(m.domains[d].Above), d)
}

func (m *slow) do(a act) ([]Event, api.Errno) {
	if a.name == "tick" {
		return m.tick(), api.OK
	}
	if a.d < 0 || a.d >= len(m.domains) {
		return nil, api.ErrNode
	}
	if a.name == "up" {
		return nil, m.up(a.d)
	}
	return nil, m.down(a.d, a.name == "keep")
}

func (m *slow) up(d int) api.Errno {
	from := m.phase(d)
	if above := m.domains[d].Above; above != -1 && m.phase(above) != '1' {
		return api.ErrState
	}
	switch from {
	case '0':
		m.moved[d] = moved{how: 'n'}
	case 't':
		m.moved[d] = moved{how: 'r'}
	default:
		return api.ErrState
	}
	return api.OK
}

func (m *slow) down(d int, keep bool) api.Errno {
	if m.phase(d) != '1' {
		return api.ErrState
	}
	if keep && !m.domains[d].Ret {
		return api.ErrArg
	}
	for i, other := range m.domains {
		if other.Above == d && m.phase(i) != '0' && m.phase(i) != 't' {
			return api.ErrBusy
		}
	}
	m.moved[d] = moved{how: 'l'}
	if keep {
		m.moved[d].how = 's'
	}
	return api.OK
}

func (m *slow) tick() []Event {
	var told []Event
	for d := range m.domains {
		before := m.phase(d)
		c := &m.moved[d]
		if c.how != 0 {
			c.ago = min(c.ago+1, m.domains[d].Delay+2)
		}
		if after := m.phase(d); after != before {
			kind := c.how
			if after == '1' {
				kind = 'o'
			}
			told = append(told, Event{kind, d})
		}
	}
	return told
}

// seen is all that there is to be asked of one domain.
type seen struct {
	phase byte
	left  int
	chain []int
}

func sameSeen(a, b seen) bool {
	return a.phase == b.phase && a.left == b.left && slices.Equal(a.chain, b.chain)
}

func askOne(g *Grid, d int) seen { return seen{g.Phase(d), g.Left(d), g.Chain(d)} }

func asked(g *Grid, many int) []seen {
	all := make([]seen, many)
	for d := range all {
		all[d] = askOne(g, d)
	}
	return all
}

func (m *slow) seen() []seen {
	all := make([]seen, len(m.domains))
	for d := range all {
		all[d] = seen{m.phase(d), m.left(d), m.chain(d)}
	}
	return all
}

// told is events, in short; phases are all of a grid.
func told(l []Event) string {
	s := ""
	for _, e := range l {
		s += fmt.Sprintf("%c%d ", e.Kind, e.Domain)
	}
	return s
}

func phases(g *Grid, many int) string {
	s := ""
	for d := range many {
		s += string(rune(g.Phase(d)))
	}
	return s
}

func newGrid(t *testing.T, s api.Soc) *Grid {
	t.Helper()
	g, err := New(s)
	if g == nil || err != api.OK {
		t.Fatalf("New(%+v) = %v, %d", s, g, err)
	}
	return g
}

// bench holds a grid, act by act, against a slow one.
type bench struct {
	t    *testing.T
	grid *Grid
	slow *slow
	done []act
}

func newBench(t *testing.T, s api.Soc) *bench {
	t.Helper()
	b := &bench{t: t, grid: newGrid(t, s), slow: newSlow(s)}
	b.see()
	return b
}

// see asks all of the grid, twice, as to be asked changes nothing.
func (b *bench) see() {
	b.t.Helper()
	want := b.slow.seen()
	for range 2 {
		if got := asked(b.grid, len(want)); !slices.EqualFunc(got, want, sameSeen) {
			b.t.Fatalf("%+v behind %v:\n%+v, want\n%+v", b.slow.domains, b.done, got, want)
		}
	}
}

// do does acts, and sees all behind each of them; it tells what the last one told.
func (b *bench) do(acts ...act) ([]Event, api.Errno) {
	b.t.Helper()
	var last []Event
	err := api.OK
	for _, a := range acts {
		b.done = append(b.done, a)
		last, err = do(b.grid, a)
		if want, wantErr := b.slow.do(a); err != wantErr || !slices.Equal(last, want) {
			b.t.Fatalf("%+v: %v told %q, %d, want %q, %d", b.slow.domains, b.done, told(last), err, told(want), wantErr)
		}
		b.see()
	}
	return last, err
}

// ok does acts, and wants no error of any.
func (b *bench) ok(acts ...act) {
	b.t.Helper()
	for _, a := range acts {
		b.err(a, api.OK)
	}
}

// err wants an error of an act.
func (b *bench) err(a act, want api.Errno) {
	b.t.Helper()
	if _, err := b.do(a); err != want {
		b.t.Errorf("%+v: %v told %d, want %d", b.slow.domains, b.done, err, want)
	}
}

// tick wants what is told by a tick, and the phases behind it.
func (b *bench) tick(tells, say string, left ...int) {
	b.t.Helper()
	if l, _ := b.do(tick); told(l) != tells {
		b.t.Errorf("%+v: %v told %q, want %q", b.slow.domains, b.done, told(l), tells)
	}
	b.are(say, left...)
}

// are wants the phases of all domains, and the ticks left of the first ones.
func (b *bench) are(say string, left ...int) {
	b.t.Helper()
	if got := phases(b.grid, len(b.slow.domains)); got != say {
		b.t.Errorf("%+v: behind %v they are %s, want %s", b.slow.domains, b.done, got, say)
	}
	for d, want := range left {
		if got := b.grid.Left(d); got != want {
			b.t.Errorf("%+v: behind %v %d has %d left, want %d", b.slow.domains, b.done, d, got, want)
		}
	}
}

func (b *bench) chain(d int, want ...int) {
	b.t.Helper()
	if got := b.grid.Chain(d); !slices.Equal(got, want) {
		b.t.Errorf("%+v: chain of %d is %v, want %v", b.slow.domains, d, got, want)
	}
}

// way is one of the ways in which a domain comes to a phase, if what is above it is LIVE.
type way struct {
	phase byte
	acts  []act
}

// ways are those to all six phases; each phase to which two ways lead has both.
func ways(s api.Soc, d int) []way {
	rise, hold := []act{up(d)}, append([]act{up(d)}, ticks(s.Domains[d].Delay+1)...)
	lived := live(s, d)
	lost := join(lived, []act{lose(d), tick})
	all := []way{{'0', nil}, {'0', lost}, {'r', rise}, {'h', hold}, {'1', lived}, {'c', join(lived, []act{lose(d)})}, {'r', join(lost, rise)}}
	if !s.Domains[d].Ret {
		return all
	}
	kept := join(lived, []act{keep(d), tick})
	return append(all, way{'c', join(lived, []act{keep(d)})}, way{'t', kept}, way{'r', join(kept, rise)}, way{'h', join(kept, hold)}, way{'1', join(kept, lived)})
}

// renumbered is a chip whose domain d has the number to[d].
func renumbered(s api.Soc, to []int) api.Soc {
	other := soc(make([]api.Domain, len(to))...)
	for i, d := range s.Domains {
		if d.Above != -1 {
			d.Above = to[d.Above]
		}
		other.Domains[to[i]] = d
	}
	return other
}

// randomSoc has domains of which each is below one ahead of it in a mixed row, or below none.
func randomSoc(r *rand.Rand) api.Soc {
	s := soc(make([]api.Domain, 1+r.Intn(6))...)
	mixed := r.Perm(len(s.Domains))
	for i, d := range mixed {
		above := -1
		if i > 0 && r.Intn(4) > 0 {
			above = mixed[r.Intn(i)]
		}
		s.Domains[d] = api.Domain{Above: above, Delay: r.Intn(1 + r.Intn(4)), Ret: r.Intn(3) > 0}
	}
	return s
}

// randomAct is, mostly, a tick, or one of a domain of the chip.
func randomAct(r *rand.Rand, many int) act {
	d := r.Intn(many)
	if r.Intn(20) == 0 {
		d = append(farOut, many)[r.Intn(len(farOut)+1)]
	}
	return []act{tick, tick, tick, up(d), up(d), keep(d), lose(d)}[r.Intn(7)]
}
