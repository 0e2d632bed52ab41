package lines

import (
	"fmt"
	"math/rand"
	"regexp"
	"slices"
	"strconv"
	"strings"
	"testing"

	"catnap/api"
	"catnap/conf"
)

// chipText are the lines of chip.
const chipText = "clock o 19200000\nclock p 0 125 2 3\nclock m 0 1\nclock d 2 4\nclock g 3\nclock m 0\nclock m 0 1 0 5\nclock o 1099511627776\n" +
	"domain - 2 keep\ndomain 0 20 lose\ndomain 1 0 keep\nreset 5\nreset 0\n" +
	"device 4 2 1 4294967295 1 2 1\nreg 1 keep\nreg 4294967295 lose\ndevice 3 0 0 0 2\ndevice 6 1 1 57005\nreg 0 lose\n"

// chip is a right one: clocks of all kinds, muxes of one From and of many, a chain of domains, devices of no Needs, of one and of many.
func chip() api.Soc {
	return api.Soc{
		Clocks: []api.Clock{
			{Kind: 'o', Rate: 19200000},
			{Kind: 'p', From: []int{0}, Mul: 125, Div: 2, Lock: 3},
			{Kind: 'm', From: []int{0, 1}},
			{Kind: 'd', From: []int{2}, Div: 4},
			{Kind: 'g', From: []int{3}},
			{Kind: 'm', From: []int{0}},
			{Kind: 'm', From: []int{0, 1, 0, 5}},
			{Kind: 'o', Rate: 1 << 40},
		},
		Domains: []api.Domain{{Above: -1, Delay: 2, Ret: true}, {Above: 0, Delay: 20}, {Above: 1, Ret: true}},
		Resets:  []api.Reset{{Least: 5}, {}},
		Devices: []api.Device{
			{Clock: 4, Domain: 2, Reset: 1, Clamp: 1<<32 - 1, Regs: []api.Reg{{Reset: 1, Retained: true}, {Reset: 1<<32 - 1}}, Needs: []int{1, 2, 1}},
			{Clock: 3, Needs: []int{2}},
			{Clock: 6, Domain: 1, Reset: 1, Clamp: 57005, Regs: []api.Reg{{}}},
		},
	}
}

// oneOfEach is the chip of the chapter's example, with its lines.
func oneOfEach() (api.Soc, string) {
	return api.Soc{
		Clocks:  []api.Clock{{Kind: 'o', Rate: 5}},
		Domains: []api.Domain{{Above: -1}},
		Resets:  []api.Reset{{Least: 1}},
		Devices: []api.Device{{Clamp: 7, Regs: []api.Reg{{Reset: 3, Retained: true}}}},
	}, "clock o 5\ndomain - 0 lose\nreset 1\ndevice 0 0 0 7\nreg 3 keep\n"
}

// show tells all of a chip, a row of nothing like one of no elements.
func show(s api.Soc) string { return fmt.Sprintf("%+v", s) }

func seeNumber(t *testing.T, w string, want uint64, isOne bool) {
	t.Helper()
	if n, ok := Number(w); n != want || ok != isOne {
		t.Errorf("Number(%.60q) = %d, %t, want %d, %t", w, n, ok, want, isOne)
	}
}

func seePrint(t *testing.T, s api.Soc, want string) {
	t.Helper()
	if got, err := Print(s); got != want || err != api.OK {
		t.Errorf("Print(%s) = %q, %d, want %q", show(s), got, err, want)
	}
}

func seeNoPrint(t *testing.T, s api.Soc) {
	t.Helper()
	if got, err := Print(s); got != "" || err != api.ErrArg {
		t.Errorf("Print(%.500s) = %q, %d, want ErrArg", show(s), got, err)
	}
}

// seeParse holds Parse, and the slow one with it, against what is wanted.
func seeParse(t *testing.T, text string, want api.Soc, wantErr api.Errno) {
	t.Helper()
	if got, err := Parse(text); show(got) != show(want) || err != wantErr {
		t.Errorf("Parse(%.300q) = %s, %d, want %s, %d", text, show(got), err, show(want), wantErr)
	}
	if got, err := slowParse(text); show(got) != show(want) || err != wantErr {
		t.Errorf("slowParse(%.300q) = %s, %d, want %s, %d", text, show(got), err, show(want), wantErr)
	}
}

// seeNoParse wants an error, and no chip.
func seeNoParse(t *testing.T, text string, want api.Errno) {
	t.Helper()
	seeParse(t, text, api.Soc{}, want)
}

// rightLine is a line, by the words of the document, but for the bounds of CLAMP and VALUE.
var rightLine = regexp.MustCompile(strings.ReplaceAll(
	`^(clock (o N|p N N N N|m N( N)*|d N N|g N)|domain (N|-) N (keep|lose)|reset N|device N N N N( N)*|reg N (keep|lose))$`,
	"N", `(0|[1-9][0-9]{0,14})`))

// slowLines tells what lines are; false, if they are none.
func slowLines(text string) (api.Soc, bool) {
	var s api.Soc
	if len(text) > 8000 || text != "" && text[len(text)-1] != 10 {
		return s, false
	}
	for len(text) > 0 {
		end := strings.IndexByte(text, 10)
		if !rightLine.MatchString(text[:end]) || !slowLine(&s, strings.Fields(text[:end])) {
			return s, false
		}
		text = text[end+1:]
	}
	return s, true
}

func slowLine(s *api.Soc, words []string) bool {
	n := make([]int, len(words))
	for i, w := range words {
		n[i], _ = strconv.Atoi(w)
	}
	kept := words[len(words)-1] == "keep"
	switch words[0] {
	case "clock":
		s.Clocks = append(s.Clocks, slowClock(words[1], n[2:]))
	case "domain":
		if words[1] == "-" {
			n[1] = -1
		}
		s.Domains = append(s.Domains, api.Domain{Above: n[1], Delay: n[2], Ret: kept})
	case "reset":
		s.Resets = append(s.Resets, api.Reset{Least: n[1]})
	case "device":
		s.Devices = append(s.Devices, api.Device{Clock: n[1], Domain: n[2], Reset: n[3], Clamp: uint32(n[4]), Needs: n[5:]})
		return n[4] < 1<<32
	case "reg":
		last := len(s.Devices) - 1
		if last < 0 || n[1] >= 1<<32 {
			return false
		}
		s.Devices[last].Regs = append(s.Devices[last].Regs, api.Reg{Reset: uint32(n[1]), Retained: kept})
	}
	return true
}

func slowClock(kind string, n []int) api.Clock {
	switch kind {
	case "o":
		return api.Clock{Kind: 'o', Rate: uint64(n[0])}
	case "p":
		return api.Clock{Kind: 'p', From: n[:1], Mul: n[1], Div: n[2], Lock: n[3]}
	case "d":
		return api.Clock{Kind: 'd', From: n[:1], Div: n[1]}
	}
	return api.Clock{Kind: kind[0], From: n}
}

// slowParse goes by the words of the document.
func slowParse(text string) (api.Soc, api.Errno) {
	s, ok := slowLines(text)
	if !ok {
		return api.Soc{}, api.ErrForm
	}
	if err := conf.Check(s); err != api.OK {
		return api.Soc{}, err
	}
	return s, api.OK
}

// slowPrint tells the lines of a right chip.
func slowPrint(s api.Soc) string {
	text := ""
	spaced := func(row []int) string { return strings.Trim(fmt.Sprint(row), "[]") }
	word := map[bool]string{true: "keep", false: "lose"}
	for _, c := range s.Clocks {
		switch c.Kind {
		case 'o':
			text += fmt.Sprintf("clock o %d\n", c.Rate)
		case 'p':
			text += fmt.Sprintf("clock p %d %d %d %d\n", c.From[0], c.Mul, c.Div, c.Lock)
		case 'd':
			text += fmt.Sprintf("clock d %d %d\n", c.From[0], c.Div)
		default:
			text += fmt.Sprintf("clock %c %s\n", c.Kind, spaced(c.From))
		}
	}
	for _, d := range s.Domains {
		above := strings.Replace(strconv.Itoa(d.Above), "-1", "-", 1)
		text += fmt.Sprintf("domain %s %d %s\n", above, d.Delay, word[d.Ret])
	}
	for _, r := range s.Resets {
		text += fmt.Sprintf("reset %d\n", r.Least)
	}
	for _, d := range s.Devices {
		text += strings.TrimRight(fmt.Sprintf("device %d %d %d %d %s", d.Clock, d.Domain, d.Reset, d.Clamp, spaced(d.Needs)), " ") + "\n"
		for _, r := range d.Regs {
			text += fmt.Sprintf("reg %d %s\n", r.Reset, word[r.Retained])
		}
	}
	return text
}

// bare is a chip without what its clocks' kinds have no use for.
func bare(s api.Soc) api.Soc {
	s = conf.Copy(s)
	for i, c := range s.Clocks {
		s.Clocks[i] = api.Clock{Kind: c.Kind, From: c.From}
		switch c.Kind {
		case 'o':
			s.Clocks[i].Rate = c.Rate
		case 'p':
			s.Clocks[i].Mul, s.Clocks[i].Div, s.Clocks[i].Lock = c.Mul, c.Div, c.Lock
		case 'd':
			s.Clocks[i].Div = c.Div
		}
	}
	return s
}

// ahead are so many of those that stand ahead of place i in a mixed row.
func ahead(r *rand.Rand, mixed []int, i, many int) []int {
	var some []int
	for range many {
		some = append(some, mixed[r.Intn(i)])
	}
	return some
}

// randomClock is a right one that comes from those ahead of place i in a mixed row; it has something in each field that its kind has no use for.
func randomClock(r *rand.Rand, mixed []int, i int) api.Clock {
	c := api.Clock{Kind: "opmdg"[r.Intn(5)], Rate: 1 + uint64(r.Int63n(1<<40)), Mul: 1 + r.Intn(1000), Div: 1 + r.Intn(1000), Lock: r.Intn(21)}
	switch {
	case i == 0:
		c.Kind = 'o'
	case c.Kind == 'm':
		c.From = ahead(r, mixed, i, 1+r.Intn(4))
	case c.Kind != 'o':
		c.From = ahead(r, mixed, i, 1)
	}
	return c
}

// randomChip is a right one, with at least one part of each kind.
func randomChip(r *rand.Rand) api.Soc {
	s := api.Soc{Clocks: make([]api.Clock, 1+r.Intn(12)), Domains: make([]api.Domain, 1+r.Intn(6)), Resets: make([]api.Reset, 1+r.Intn(6)), Devices: make([]api.Device, 1+r.Intn(6))}
	mixed := r.Perm(len(s.Clocks))
	for i, v := range mixed {
		s.Clocks[v] = randomClock(r, mixed, i)
	}
	mixed = r.Perm(len(s.Domains))
	for i, v := range mixed {
		s.Domains[v] = api.Domain{Above: -1, Delay: r.Intn(21), Ret: r.Intn(2) == 0}
		if i > 0 && r.Intn(3) > 0 {
			s.Domains[v].Above = ahead(r, mixed, i, 1)[0]
		}
	}
	for i := range s.Resets {
		s.Resets[i].Least = r.Intn(21)
	}
	mixed = r.Perm(len(s.Devices))
	for i, v := range mixed {
		d := api.Device{Clock: r.Intn(len(s.Clocks)), Domain: r.Intn(len(s.Domains)), Reset: r.Intn(len(s.Resets)), Clamp: r.Uint32()}
		for range r.Intn(9) {
			d.Regs = append(d.Regs, api.Reg{Reset: r.Uint32(), Retained: r.Intn(2) == 0})
		}
		if i > 0 {
			d.Needs = ahead(r, mixed, i, r.Intn(7))
		}
		s.Devices[v] = d
	}
	return s
}

// greatest is a right chip with as much of all as there may be.
func greatest() api.Soc {
	s := api.Soc{Resets: slices.Repeat([]api.Reset{{Least: 20}}, 6)}
	for i := range 12 {
		s.Clocks = append(s.Clocks, api.Clock{Kind: 'm', From: slices.Repeat([]int{11}, 4)})
		if i%2 == 1 {
			s.Clocks[i] = api.Clock{Kind: 'p', From: []int{11}, Mul: 1000, Div: 1000, Lock: 20}
		}
	}
	s.Clocks[11] = api.Clock{Kind: 'o', Rate: 1 << 40}
	for i := range 6 {
		s.Domains = append(s.Domains, api.Domain{Above: i - 1, Delay: 20, Ret: true})
		d := api.Device{Clock: 11, Domain: 5, Reset: 5, Clamp: 1<<32 - 1, Regs: slices.Repeat([]api.Reg{{Reset: 1<<32 - 1, Retained: true}}, 8)}
		if i > 0 {
			d.Needs = slices.Repeat([]int{i - 1}, 6)
		}
		s.Devices = append(s.Devices, d)
	}
	return s
}
