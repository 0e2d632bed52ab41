package lines

import (
	"math"
	"strings"

	"catnap/api"
)

// must panics, if something is not as it must be in lines.
func must(right bool) {
	if !right {
		panic(api.ErrForm)
	}
}

// words are those of a line that are not read yet.
type words []string

func (w *words) next() string {
	must(len(*w) > 0)
	word := (*w)[0]
	*w = (*w)[1:]
	return word
}

func (w *words) end() { must(len(*w) == 0) }

func (w *words) number() int { return number(w.next()) }

// numbers are all words that are left.
func (w *words) numbers() []int {
	var all []int
	for len(*w) > 0 {
		all = append(all, w.number())
	}
	return all
}

// word32 is a number that a word of 32 bits has room for.
func (w *words) word32() uint32 {
	n := w.number()
	must(n <= math.MaxUint32)
	return uint32(n)
}

func (w *words) above() int {
	word := w.next()
	if word == wordNoNode {
		return api.NoNode
	}
	return number(word)
}

func (w *words) kept() bool {
	word := w.next()
	must(word == wordKeep || word == wordLose)
	return word == wordKeep
}

// number is what a word must say; it has so few digits that an int has room for it.
func number(word string) int {
	n, ok := Number(word)
	must(ok)
	return int(n)
}

// read reads lines, whether the chip that they make is right or not.
func read(text string) api.Soc {
	var s api.Soc
	for l := range strings.Lines(text) {
		l, ended := strings.CutSuffix(l, "\n")
		must(ended)
		// a blank too many leaves an empty word, which is right nowhere
		w := words(strings.Split(l, " "))
		add(&s, &w)
		w.end()
	}
	return s
}

// add reads the words of one line, and adds what they are to the chip.
func add(s *api.Soc, w *words) {
	switch w.next() {
	case wordClock:
		s.Clocks = append(s.Clocks, readClock(w))
	case wordDomain:
		s.Domains = append(s.Domains, api.Domain{Above: w.above(), Delay: w.number(), Ret: w.kept()})
	case wordReset:
		s.Resets = append(s.Resets, api.Reset{Least: w.number()})
	case wordDevice:
		s.Devices = append(s.Devices, api.Device{Clock: w.number(), Domain: w.number(), Reset: w.number(), Clamp: w.word32(), Needs: w.numbers()})
	case wordReg:
		must(len(s.Devices) > 0)
		last := &s.Devices[len(s.Devices)-1]
		last.Regs = append(last.Regs, api.Reg{Reset: w.word32(), Retained: w.kept()})
	default:
		panic(api.ErrForm)
	}
}

func readClock(w *words) api.Clock {
	switch w.next() {
	case "o":
		return api.Clock{Kind: 'o', Rate: uint64(w.number())}
	case "p":
		return api.Clock{Kind: 'p', From: []int{w.number()}, Mul: w.number(), Div: w.number(), Lock: w.number()}
	case "m":
		return api.Clock{Kind: 'm', From: append([]int{w.number()}, w.numbers()...)}
	case "d":
		return api.Clock{Kind: 'd', From: []int{w.number()}, Div: w.number()}
	case "g":
		return api.Clock{Kind: 'g', From: []int{w.number()}}
	}
	panic(api.ErrForm)
}
