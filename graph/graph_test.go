package graph

import (
	"math"
	"math/rand"
	"slices"
	"testing"

	"catnap/api"
)

// farOut are numbers that are no node of any graph.
var farOut = []int{-1, -2, -100, 101, 1 << 32, -1 << 32, math.MaxInt, math.MaxInt - 1, math.MinInt, math.MinInt + 1}

// clone is a graph with rows of its own.
func clone(g [][]int) [][]int {
	c := make([][]int, len(g))
	for v, row := range g {
		c[v] = slices.Clone(row)
	}
	return c
}

// slowUnder is the table of what is under what, by the words of the document: it hangs on it, or on one that is under it.
func slowUnder(g [][]int) [][]bool {
	under := make([][]bool, len(g))
	for v, row := range g {
		under[v] = make([]bool, len(g))
		for _, w := range row {
			under[v][w] = true
		}
	}
	for mid := range g {
		for v := range g {
			for w := range g {
				under[v][w] = under[v][w] || under[v][mid] && under[mid][w]
			}
		}
	}
	return under
}

// slowOrder takes again and again the least one that is not there yet, and hangs on none but those that are.
func slowOrder(g [][]int) []int {
	var order []int
	for range g {
		order = append(order, slices.IndexFunc(indices(g), func(v int) bool {
			return !slices.Contains(order, v) && !slices.ContainsFunc(g[v], func(w int) bool { return !slices.Contains(order, w) })
		}))
	}
	return order
}

func indices(g [][]int) []int {
	all := make([]int, len(g))
	for v := range all {
		all[v] = v
	}
	return all
}

func seeOrder(t *testing.T, g [][]int, want []int, e api.Errno) {
	t.Helper()
	if got, err := Order(g); !slices.Equal(got, want) || err != e {
		t.Errorf("Order(%v) = %v, %d, want %v, %d", g, got, err, want, e)
	}
	if err := Check(g); err != e {
		t.Errorf("Check(%v) = %d, want %d", g, err, e)
	}
}

func seeAbove(t *testing.T, g [][]int, v int, want []int, e api.Errno) {
	t.Helper()
	if got, err := Above(g, v); !slices.Equal(got, want) || err != e {
		t.Errorf("Above(%v, %d) = %v, %d, want %v, %d", g, v, got, err, want, e)
	}
}

func seeUnder(t *testing.T, g [][]int, v int, want []int, e api.Errno) {
	t.Helper()
	if got, err := Under(g, v); !slices.Equal(got, want) || err != e {
		t.Errorf("Under(%v, %d) = %v, %d, want %v, %d", g, v, got, err, want, e)
	}
}

// seeWrong sees that all calls tell that error, whatever node is asked about.
func seeWrong(t *testing.T, g [][]int, e api.Errno) {
	t.Helper()
	seeOrder(t, g, nil, e)
	for _, v := range append([]int{0, len(g) - 1, len(g)}, farOut...) {
		seeAbove(t, g, v, nil, e)
		seeUnder(t, g, v, nil, e)
	}
}

// seeAll holds all that is answered of a graph against the slow ones.
func seeAll(t *testing.T, g [][]int) {
	t.Helper()
	under := slowUnder(g)
	for v := range g {
		if under[v][v] {
			seeWrong(t, g, api.ErrCycle)
			return
		}
	}
	order := slowOrder(g)
	seeOrder(t, g, order, api.OK)
	for v := range g {
		seeAbove(t, g, v, picked(order, func(w int) bool { return under[v][w] }), api.OK)
		seeUnder(t, g, v, picked(order, func(w int) bool { return under[w][v] }), api.OK)
	}
}

func picked(order []int, want func(v int) bool) []int {
	var some []int
	for _, v := range order {
		if want(v) {
			some = append(some, v)
		}
	}
	return some
}

// chain is a graph in which each node hangs on the one that stands ahead of it in the row.
func chain(row []int) [][]int {
	g := make([][]int, len(row))
	for i := 1; i < len(row); i++ {
		g[row[i]] = []int{row[i-1]}
	}
	return g
}

// rising and falling are the numbers 0 to many-1, from either end.
func rising(many int) []int { return indices(make([][]int, many)) }

func falling(many int) []int {
	row := rising(many)
	slices.Reverse(row)
	return row
}

// C1: Order, of ordinary graphs.
func TestOrderExamples(t *testing.T) {
	seeOrder(t, [][]int{{2}, {}, {1}}, []int{1, 2, 0}, api.OK)
	seeOrder(t, [][]int{{}, {}, {}}, []int{0, 1, 2}, api.OK)
	seeOrder(t, [][]int{{}, {0}, {0}, {1, 2}}, []int{0, 1, 2, 3}, api.OK)
	seeOrder(t, [][]int{{1, 2}, {3}, {3}, {}}, []int{3, 1, 2, 0}, api.OK)
	seeOrder(t, [][]int{{5}, {4}, {}, {}, {}, {}}, []int{2, 3, 4, 1, 5, 0}, api.OK)
}

// C1: no node at all, and one.
func TestOrderOfFew(t *testing.T) {
	seeOrder(t, nil, nil, api.OK)
	seeOrder(t, [][]int{}, nil, api.OK)
	seeOrder(t, [][]int{nil}, []int{0}, api.OK)
	seeOrder(t, [][]int{{}}, []int{0}, api.OK)
	seeOrder(t, [][]int{{0}}, nil, api.ErrCycle)
	seeOrder(t, [][]int{{1}}, nil, api.ErrNode)
	seeOrder(t, [][]int{{-1}}, nil, api.ErrNode)
}

// C1: it is the least one each time, not the one that could be had first, and one that has been passed over comes as soon as it can.
func TestOrderTakesTheLeast(t *testing.T) {
	seeOrder(t, [][]int{{1}, {}, {}}, []int{1, 0, 2}, api.OK) // 0 ahead of 2, that could be had before it
	seeOrder(t, [][]int{{2}, {}, {}}, []int{1, 2, 0}, api.OK) // 0 can't be had ahead of 2
	seeOrder(t, [][]int{{3}, {3}, {}, {}}, []int{2, 3, 0, 1}, api.OK)
	seeOrder(t, [][]int{{2}, {0}, {}, {}}, []int{2, 0, 1, 3}, api.OK)
	seeOrder(t, [][]int{{1}, {3}, {}, {}, {}}, []int{2, 3, 1, 0, 4}, api.OK)
	seeOrder(t, [][]int{{4}, {4}, {4}, {}, {}}, []int{3, 4, 0, 1, 2}, api.OK)
}

// C1: what a node hangs on stands in any order, and any of it more than once.
func TestOrderOfRepeated(t *testing.T) {
	for _, row := range [][]int{{0, 2}, {2, 0}, {0, 0, 2}, {2, 0, 2}, {2, 2, 2, 0, 0, 0}, {0, 2, 0, 2, 0}} {
		seeOrder(t, [][]int{{}, row, {}}, []int{0, 2, 1}, api.OK)
		seeAbove(t, [][]int{{}, row, {}}, 1, []int{0, 2}, api.OK)
		seeUnder(t, [][]int{{}, row, {}}, 2, []int{1}, api.OK)
	}
	seeWrong(t, [][]int{{}, {0, 1, 1}}, api.ErrCycle)
	seeWrong(t, [][]int{{1, 1}, {0, 0}}, api.ErrCycle)
	seeWrong(t, [][]int{{}, {0, 0, 2, 2}}, api.ErrNode)
}

// C1: 100 nodes are right, 101 are not, whatever else is.
func TestOrderOfMostNodes(t *testing.T) {
	seeOrder(t, make([][]int, 100), rising(100), api.OK)
	seeOrder(t, chain(rising(100)), rising(100), api.OK)
	seeOrder(t, chain(falling(100)), falling(100), api.OK)
	seeWrong(t, make([][]int, 101), api.ErrArg)
	seeWrong(t, chain(rising(101)), api.ErrArg)
	seeWrong(t, make([][]int, 1<<16), api.ErrArg)
	for _, row := range [][]int{{-1}, {101}, {0}, {math.MinInt}} {
		g := make([][]int, 101)
		g[0] = row
		seeWrong(t, g, api.ErrArg)
	}
	g := chain(rising(100))
	g[0] = []int{99}
	seeWrong(t, g, api.ErrCycle)
	g[50] = append(g[50], 100)
	seeWrong(t, g, api.ErrNode)
}

// C1: numbers that are no node, below 0, just one too great, and far out, wherever they stand.
func TestOrderOfNoNode(t *testing.T) {
	for _, bad := range append([]int{3, 4}, farOut...) {
		for v := range 3 {
			for _, row := range [][]int{{bad}, {bad, 0}, {0, bad}, {0, bad, 0}} {
				g := [][]int{{}, {}, {}}
				g[v] = row
				seeWrong(t, g, api.ErrNode)
			}
		}
	}
	seeOrder(t, [][]int{{}, {}, {}, {2}}, []int{0, 1, 2, 3}, api.OK)
}

// C1: ErrNode ahead of ErrCycle, whichever stands first.
func TestNoNodeAheadOfCircle(t *testing.T) {
	for _, bad := range []int{-1, 3, math.MaxInt, math.MinInt} {
		seeWrong(t, [][]int{{0}, {}, {bad}}, api.ErrNode)
		seeWrong(t, [][]int{{bad}, {}, {2}}, api.ErrNode)
		seeWrong(t, [][]int{{1}, {0}, {bad}}, api.ErrNode)
		seeWrong(t, [][]int{{bad}, {2}, {1}}, api.ErrNode)
		seeWrong(t, [][]int{{0, bad}, {}, {}}, api.ErrNode)
		seeWrong(t, [][]int{{bad, 0}, {}, {}}, api.ErrNode)
	}
}

// C1: circles of one, of two, of many, with nodes above and under them.
func TestOrderOfCircles(t *testing.T) {
	for many := 1; many <= 100; many++ {
		g := chain(rising(many))
		g[0] = []int{many - 1}
		seeWrong(t, g, api.ErrCycle)
	}
	for v := range 4 {
		g := [][]int{{}, {0}, {1}, {2}}
		g[v] = append(g[v], v)
		seeWrong(t, g, api.ErrCycle)
	}
	seeWrong(t, [][]int{{}, {0, 2}, {1}, {2}}, api.ErrCycle)
	seeWrong(t, [][]int{{1}, {2}, {3}, {1}}, api.ErrCycle)
	seeWrong(t, [][]int{{}, {}, {}, {3}}, api.ErrCycle)
	seeWrong(t, [][]int{{1}, {0}, {3}, {2}}, api.ErrCycle)
}

// C2: Above and Under, of ordinary graphs.
func TestAboveAndUnderExamples(t *testing.T) {
	// 0 hangs on 2, 2 on 1; 3 on nothing
	g := [][]int{{2}, {}, {1}, {}}
	above := [][]int{{1, 2}, {}, {1}, {}}
	under := [][]int{{}, {2, 0}, {0}, {}}
	for v := range g {
		seeAbove(t, g, v, above[v], api.OK)
		seeUnder(t, g, v, under[v], api.OK)
	}
	// two ways from 4 to 0
	g = [][]int{{}, {0}, {0}, {5}, {2, 1}, {}}
	above = [][]int{{}, {0}, {0}, {5}, {0, 1, 2}, {}}
	under = [][]int{{1, 2, 4}, {4}, {4}, {}, {}, {3}}
	for v := range g {
		seeAbove(t, g, v, above[v], api.OK)
		seeUnder(t, g, v, under[v], api.OK)
	}
}

// C2: they stand as in Order, not by their numbers, and not as they are met.
func TestAboveAndUnderStandAsInOrder(t *testing.T) {
	g := [][]int{{3}, {}, {0, 1, 3}, {}, {1, 0}} // 1, 3, 0, 2, 4
	seeOrder(t, g, []int{1, 3, 0, 2, 4}, api.OK)
	seeAbove(t, g, 2, []int{1, 3, 0}, api.OK)
	seeAbove(t, g, 4, []int{1, 3, 0}, api.OK)
	seeUnder(t, g, 3, []int{0, 2, 4}, api.OK)
	g = [][]int{{2}, {0}, {4}, {2}, {}} // 4, 2, 0, 1, 3
	seeUnder(t, g, 4, []int{2, 0, 1, 3}, api.OK)
	seeAbove(t, g, 1, []int{4, 2, 0}, api.OK)
}

// C2: of the first and of the last of long chains.
func TestAboveAndUnderOfChains(t *testing.T) {
	mixed := rand.New(rand.NewSource(1)).Perm(100)
	for _, row := range [][]int{rising(2), falling(2), rising(100), falling(100), mixed} {
		g, last := chain(row), len(row)-1
		seeOrder(t, g, row, api.OK)
		seeAbove(t, g, row[0], nil, api.OK)
		seeUnder(t, g, row[0], row[1:], api.OK)
		seeAbove(t, g, row[last], row[:last], api.OK)
		seeUnder(t, g, row[last], nil, api.OK)
		for i, v := range row {
			seeAbove(t, g, v, row[:i], api.OK)
			seeUnder(t, g, v, row[i+1:], api.OK)
		}
	}
}

// C2: ErrNode of what is no node, in a graph that is right.
func TestAboveAndUnderOfNoNode(t *testing.T) {
	for _, g := range [][][]int{nil, {}, {{}}, {{2}, {}, {1}}, make([][]int, 100), chain(falling(100))} {
		for _, v := range append([]int{len(g), len(g) + 1}, farOut...) {
			seeAbove(t, g, v, nil, api.ErrNode)
			seeUnder(t, g, v, nil, api.ErrNode)
		}
	}
	seeAbove(t, [][]int{{}}, 0, nil, api.OK)
	seeUnder(t, [][]int{{}}, 0, nil, api.OK)
}

// C1, C2, C3: all graphs of up to four nodes.
func TestAllSmallGraphs(t *testing.T) {
	for many := range 5 {
		for edges := range 1 << (many * many) {
			g := make([][]int, many)
			for i := range many * many {
				if edges>>i&1 == 1 {
					g[i/many] = append(g[i/many], i%many)
				}
			}
			seeAll(t, g)
		}
	}
}

// randomGraph has no circle, unless one is asked for: its nodes hang on those ahead of them in a mixed row.
func randomGraph(r *rand.Rand, many, edges int) [][]int {
	row, g := r.Perm(many), make([][]int, many)
	for range edges {
		if i := r.Intn(many); i > 0 {
			g[row[i]] = append(g[row[i]], row[r.Intn(i)])
		}
	}
	return g
}

// C1, C2, C3: greater ones, thin and thick.
func TestManyGraphs(t *testing.T) {
	r := rand.New(rand.NewSource(2))
	for _, many := range []int{5, 6, 7, 8, 12, 30, 99, 100} {
		for _, edges := range []int{many / 2, many, 2 * many, many * many} {
			for range 4 {
				seeAll(t, randomGraph(r, many, edges))
			}
		}
	}
}

// C1, C2: rows that are mixed, and say things again, change no answer.
func TestMixedRowsAnswerTheSame(t *testing.T) {
	r := rand.New(rand.NewSource(3))
	for range 50 {
		g := randomGraph(r, 20, 40)
		mixed := clone(g)
		for _, row := range mixed {
			r.Shuffle(len(row), func(i, j int) { row[i], row[j] = row[j], row[i] })
		}
		for v, row := range mixed {
			mixed[v] = append(row, row...)
		}
		order, _ := Order(g)
		seeOrder(t, mixed, order, api.OK)
		for v := range g {
			above, _ := Above(g, v)
			seeAbove(t, mixed, v, above, api.OK)
			under, _ := Under(g, v)
			seeUnder(t, mixed, v, under, api.OK)
		}
	}
}

// C3: by what is answered alone: each stands behind all above it, what is above is what is hung on and all above these, and under is above turned round.
func TestWhatFollows(t *testing.T) {
	r := rand.New(rand.NewSource(4))
	for range 50 {
		g := randomGraph(r, 30, 60)
		order, _ := Order(g)
		for v := range g {
			above, _ := Above(g, v)
			for _, w := range above {
				if slices.Index(order, w) >= slices.Index(order, v) {
					t.Errorf("%v: %d is above %d, and stands behind it in %v", g, w, v, order)
				}
				if under, _ := Under(g, w); !slices.Contains(under, v) {
					t.Errorf("%v: %d is above %d, but under it are %v", g, w, v, under)
				}
			}
			want := slices.Clone(g[v])
			for _, w := range g[v] {
				more, _ := Above(g, w)
				want = append(want, more...)
			}
			slices.Sort(want)
			slices.Sort(above)
			if !slices.Equal(above, slices.Compact(want)) {
				t.Errorf("Above(%v, %d) are %v, want %v", g, v, above, want)
			}
		}
	}
}

// P3: nothing that is handed in is written into, and what lies behind a list's length is neither read nor written.
func TestNothingHandedInIsChanged(t *testing.T) {
	const behind = -7
	rows := [][]int{{2, 2, behind}, {behind, behind}, {1, behind}, {0, 1, behind}, {behind}}
	for _, lens := range [][]int{{2, 0, 1, 2}, {3, 2, 2, 3}, {1, 0, 0, 0}} {
		whole := clone(rows)
		for v, n := range lens {
			whole[v] = whole[v][:n]
		}
		g := whole[:4]
		Check(g)
		Order(g)
		for v := -1; v <= 4; v++ {
			Above(g, v)
			Under(g, v)
		}
		for v, row := range whole {
			if v < 4 && len(row) != lens[v] {
				t.Errorf("the row of %d has a length of %d now", v, len(row))
			}
			if row = row[:len(rows[v])]; !slices.Equal(row, rows[v]) {
				t.Errorf("the row of %d is %v now, was %v", v, row, rows[v])
			}
		}
	}
	whole := clone(rows)
	g := [][]int{whole[0][:2], whole[1][:0], whole[2][:1], whole[3][:2], whole[4]}[:4]
	seeOrder(t, g, []int{1, 2, 0, 3}, api.OK)
	seeAbove(t, g, 3, []int{1, 2, 0}, api.OK)
	seeUnder(t, g, 1, []int{2, 0, 3}, api.OK)
}

// P3, P4: lists that are answered are new: written into, they change neither the graph nor what is answered next.
func TestAnswersAreNotShared(t *testing.T) {
	g := [][]int{{}, {0}, {0, 1}, {0, 1, 2}}
	was := clone(g)
	spoil := func(row []int, _ api.Errno) {
		row = row[:cap(row)]
		for i := range row {
			row[i] = -9
		}
	}
	order, _ := Order(g)
	above, _ := Above(g, 3)
	under, _ := Under(g, 0)
	for range 2 {
		spoil(Order(g))
		for v := range g {
			spoil(Above(g, v))
			spoil(Under(g, v))
		}
	}
	if !slices.Equal(order, []int{0, 1, 2, 3}) || !slices.Equal(above, []int{0, 1, 2}) || !slices.Equal(under, []int{1, 2, 3}) {
		t.Errorf("earlier answers are %v, %v, %v now", order, above, under)
	}
	if !slices.EqualFunc(g, was, slices.Equal[[]int]) {
		t.Errorf("the graph is %v now, was %v", g, was)
	}
	seeAll(t, g)
}

// P3: rows that share what they are made of are rows like others.
func TestSharedRows(t *testing.T) {
	row := []int{0, 1, 2, 3}
	g := [][]int{row[:0], row[:1], row[:2], row[:3], row[1:3], row}
	seeAll(t, g)
	if !slices.Equal(row, []int{0, 1, 2, 3}) {
		t.Errorf("the row is %v now", row)
	}
}

// P1: rows of any length end, however often they say the same.
func TestLongRows(t *testing.T) {
	const long = 1 << 16
	g := make([][]int, 100)
	for v := range g {
		g[v] = make([]int, 0, long+1)
		for i := range long {
			g[v] = append(g[v], min(v+1+i*100/long, 99))
		}
	}
	g[99] = nil // each hangs on all behind it, the last one of all on none
	// such a graph is too long to be told when an answer is wrong
	if got, err := Order(g); !slices.Equal(got, falling(100)) || err != api.OK {
		t.Errorf("Order of long rows = %v, %d", got, err)
	}
	if got, err := Above(g, 0); !slices.Equal(got, falling(100)[:99]) || err != api.OK {
		t.Errorf("Above of long rows = %v, %d", got, err)
	}
	if got, err := Under(g, 99); !slices.Equal(got, falling(100)[1:]) || err != api.OK {
		t.Errorf("Under of long rows = %v, %d", got, err)
	}
	g[99] = slices.Repeat([]int{0}, long)
	if err := Check(g); err != api.ErrCycle {
		t.Errorf("Check of long rows in a circle = %d", err)
	}
	g[0] = append(g[0], 100)
	if err := Check(g); err != api.ErrNode {
		t.Errorf("Check of a long row that ends with 100 = %d", err)
	}
}
