package lines

import (
	"math/rand"
	"slices"
	"strings"
	"testing"

	"catnap/api"
	"catnap/conf"
)

// F3: ordinary chips, and an empty text.
func TestParse(t *testing.T) {
	seeParse(t, chipText, chip(), api.OK)
	s, text := oneOfEach()
	seeParse(t, text, s, api.OK)
	seeParse(t, "", api.Soc{}, api.OK)
	seeParse(t, "reset 7\n", api.Soc{Resets: []api.Reset{{Least: 7}}}, api.OK)
	seeParse(t, "domain 1 2 keep\ndomain - 3 lose\n", api.Soc{Domains: []api.Domain{{Above: 1, Delay: 2, Ret: true}, {Above: -1, Delay: 3}}}, api.OK)
	seeParse(t, slowPrint(greatest()), greatest(), api.OK)
}

// F3: lines of different kinds stand in any order, each kind's own order stays; a reg is one of the last device ahead of it, whatever stands between.
func TestParseOfAnyOrder(t *testing.T) {
	seeParse(t, "device 0 0 0 7\nclock o 5\nreg 3 keep\nreset 1\nreg 4 lose\ndomain - 0 lose\ndevice 0 0 0 8 0\nclock g 0\nreg 5 keep\n", api.Soc{
		Clocks:  []api.Clock{{Kind: 'o', Rate: 5}, {Kind: 'g', From: []int{0}}},
		Domains: []api.Domain{{Above: -1}},
		Resets:  []api.Reset{{Least: 1}},
		Devices: []api.Device{
			{Clamp: 7, Regs: []api.Reg{{Reset: 3, Retained: true}, {Reset: 4}}},
			{Clamp: 8, Regs: []api.Reg{{Reset: 5, Retained: true}}, Needs: []int{0}},
		},
	}, api.OK)
	r := rand.New(rand.NewSource(4))
	for range 1000 {
		s := bare(randomChip(r))
		var piles [4][]string // lines whose order is kept
		for line := range strings.Lines(slowPrint(s)) {
			pile := strings.Index("cdrd", line[:1])
			if strings.HasPrefix(line, "de") || strings.HasPrefix(line, "reg") {
				pile = 3
			}
			piles[pile] = append(piles[pile], line)
		}
		text := ""
		for slices.ContainsFunc(piles[:], func(pile []string) bool { return len(pile) > 0 }) {
			if pile := &piles[r.Intn(4)]; len(*pile) > 0 {
				text, *pile = text+(*pile)[0], (*pile)[1:]
			}
		}
		seeParse(t, text, s, api.OK)
	}
}

// F3: rows of nothing, of one, of many, and of too many, which are conf.Check's.
func TestParseOfRows(t *testing.T) {
	for many := range 10 {
		want, text := oneOfEach()
		want.Clocks = append(want.Clocks, api.Clock{Kind: 'm', From: make([]int, many)})
		switch text += "clock m" + strings.Repeat(" 0", many) + "\n"; {
		case many == 0:
			seeNoParse(t, text, api.ErrForm)
		case many <= 4:
			seeParse(t, text, want, api.OK)
		default:
			seeNoParse(t, text, api.ErrArg)
		}
		want, text = oneOfEach()
		want.Devices = append(want.Devices, api.Device{Needs: make([]int, many)})
		if text += "device 0 0 0 0" + strings.Repeat(" 0", many) + "\n"; many <= 6 {
			seeParse(t, text, want, api.OK)
		} else {
			seeNoParse(t, text, api.ErrFull)
		}
		want, text = oneOfEach()
		want.Devices = append(want.Devices, api.Device{Regs: make([]api.Reg, many)})
		if text += "device 0 0 0 0\n" + strings.Repeat("reg 0 lose\n", many); many <= 8 {
			seeParse(t, text, want, api.OK)
		} else {
			seeNoParse(t, text, api.ErrFull)
		}
	}
}

// F3: numbers at their bounds: of a line, which are ErrForm, and of a chip, which are conf.Check's.
func TestParseOfNumbers(t *testing.T) {
	_, text := oneOfEach()
	for line, want := range map[string]api.Errno{
		"clock o 1": api.OK, "clock o 9": api.OK, "clock o 1099511627776": api.OK, "clock o 1099511627777": api.ErrRange, "clock o 0": api.ErrRange,
		"clock o 999999999999999": api.ErrRange, "clock o 1000000000000000": api.ErrForm, "clock o 01": api.ErrForm, "clock o 00": api.ErrForm,
		"clock o 18446744073709551617": api.ErrForm,
		"clock p 0 1000 1000 20":       api.OK, "clock p 0 1 1 0": api.OK, "clock p 0 1001 1 0": api.ErrRange, "clock p 0 1 1001 0": api.ErrRange, "clock p 0 1 1 21": api.ErrRange,
		"clock p 0 0 1 0": api.ErrRange, "clock p 0 1 0 0": api.ErrRange, "clock p 2 0 0 99": api.ErrNode, "clock p 0 1 1 1000000000000000": api.ErrForm,
		"clock d 0 1000": api.OK, "clock d 0 1001": api.ErrRange, "clock d 0 0": api.ErrRange, "clock d 00 1": api.ErrForm, "clock g 1": api.ErrCycle, "clock g 2": api.ErrNode,
		"clock g 999999999999999": api.ErrNode, "clock g 1000000000000000": api.ErrForm, "clock m 0 0 0 2": api.ErrNode, "clock m 0 0 0 1": api.ErrCycle, "clock m 0 0 0 00": api.ErrForm,
		"domain - 20 keep": api.OK, "domain 0 20 keep": api.OK, "domain - 21 keep": api.ErrRange, "domain 1 0 lose": api.ErrCycle, "domain 2 0 lose": api.ErrNode,
		"domain 999999999999999 0 lose": api.ErrNode, "domain 1000000000000000 0 lose": api.ErrForm, "domain - 1000000000000000 lose": api.ErrForm, "domain -1 0 keep": api.ErrForm,
		"reset 20": api.OK, "reset 21": api.ErrRange, "reset 999999999999999": api.ErrRange, "reset 1000000000000000": api.ErrForm, "reset 007": api.ErrForm, "reset 000000000000007": api.ErrForm,
		"device 0 0 0 4294967295": api.OK, "device 0 0 0 4294967296": api.ErrForm, "device 0 0 0 999999999999999": api.ErrForm, "device 0 0 0 1000000000000000": api.ErrForm,
		"device 1 0 0 0": api.ErrNode, "device 0 1 0 0": api.ErrNode, "device 0 0 1 0": api.ErrNode, "device 0 0 0 0 2": api.ErrNode, "device 0 0 0 0 1": api.ErrCycle,
		"device 4294967296 0 0 0": api.ErrNode, "device 0 4294967296 0 0": api.ErrNode, "device 0 0 4294967296 0": api.ErrNode, "device 0 0 0 0 4294967296": api.ErrNode,
		"device 0 0 0 0 0 1000000000000000": api.ErrForm, "device 0 0 0 04": api.ErrForm,
		"reg 4294967295 keep": api.OK, "reg 4294967295 lose": api.OK, "reg 4294967296 keep": api.ErrForm, "reg 4294967296 lose": api.ErrForm, "reg 999999999999999 keep": api.ErrForm,
		"reg 1000000000000000 keep": api.ErrForm, "reg 00 keep": api.ErrForm, "reg 18446744073709551615 keep": api.ErrForm,
	} {
		if want == api.OK {
			s, ok := slowLines(text + line + "\n")
			seeParse(t, text+line+"\n", s, want)
			if back := slowPrint(s); !ok || !strings.Contains(back, line+"\n") {
				t.Errorf("%q is lost in %q", line, back)
			}
			continue
		}
		seeNoParse(t, text+line+"\n", want)
	}
}

// F3: a text has at most 8000 bytes, whatever it says.
func TestParseOfLongTexts(t *testing.T) {
	lines := strings.Repeat("clock o 5\n", 799)
	for text, want := range map[string]api.Errno{
		lines + "reset 10\n":               api.ErrFull, // 7999 bytes
		lines + "reset 100\n":              api.ErrFull, // 8000
		lines + "reset 1000\n":             api.ErrForm, // 8001
		lines + "clock o 5\nclock o 5\n":   api.ErrForm,
		lines + "clock o 5\n\n":            api.ErrForm,
		strings.Repeat("\n", 8000):         api.ErrForm,
		strings.Repeat("reset 0\n", 1000):  api.ErrFull,
		strings.Repeat("reset 0\n", 1001):  api.ErrForm,
		strings.Repeat("x", 1<<24):         api.ErrForm,
		strings.Repeat("reset 1\n", 1<<20): api.ErrForm,
		strings.Repeat(" ", 8000):          api.ErrForm,
		strings.Repeat("1", 7999) + "\n":   api.ErrForm,
	} {
		seeNoParse(t, text, want)
	}
	// one line as long as the text may be, and one byte longer
	needs := "device 0 0 0 10" + strings.Repeat(" 0", 3992)
	seeNoParse(t, needs+"\n", api.ErrFull)
	seeNoParse(t, strings.Replace(needs, "10", "100", 1)+"\n", api.ErrForm)
	if len(needs) != 7999 || len(lines+"reset 100\n") != 8000 {
		t.Errorf("the texts have other lengths than meant: %d, %d", len(needs), len(lines))
	}
}

// rightLines are one of each kind; each can be added to the lines of oneOfEach.
func rightLines() []string {
	return []string{"clock o 5", "clock p 0 1 1 1", "clock m 0", "clock m 0 0", "clock d 0 1", "clock g 0", "domain - 0 keep", "domain 0 1 lose", "reset 1", "device 0 0 0 7", "device 0 0 0 7 0 0", "reg 3 keep", "reg 3 lose"}
}

// seeNoLine wants a line to be none, wherever it stands.
func seeNoLine(t *testing.T, line string) {
	t.Helper()
	_, text := oneOfEach()
	seeNoParse(t, text+line+"\n", api.ErrForm)
	seeNoParse(t, text+line+"\n"+text, api.ErrForm)
	seeNoParse(t, line+"\n"+text, api.ErrForm)
	seeNoParse(t, line+"\n", api.ErrForm)
}

// F3: blanks ahead, behind, two between, other white ones, empty lines, and a last line without its byte 10.
func TestParseOfBlanks(t *testing.T) {
	_, text := oneOfEach()
	for _, line := range rightLines() {
		if _, err := Parse(text + line + "\n"); err != api.OK {
			t.Errorf("%q is no line: %d", line, err)
		}
		seeNoParse(t, text+line, api.ErrForm)
		seeNoParse(t, text+line+"\r", api.ErrForm)
		seeNoParse(t, text+line+"\x00", api.ErrForm)
		for _, white := range []string{" ", "  ", "\t", "\r", "\v", "\f", "\u00a0", "\u0085", "\u2028", "\x00"} {
			seeNoLine(t, white+line)
			seeNoLine(t, line+white)
			for i := range line {
				if line[i] == ' ' {
					seeNoLine(t, line[:i]+white+line[i:])
					seeNoLine(t, line[:i+1]+white+line[i+1:])
				}
				if line[i] == ' ' && white != " " {
					seeNoLine(t, line[:i]+white+line[i+1:])
				}
			}
		}
	}
	for _, line := range []string{"", " ", "  ", "\r", "\t", "\x00"} {
		seeNoLine(t, line)
		seeNoParse(t, line+"\n", api.ErrForm)
	}
	for i := range text {
		if text[i] == '\n' {
			seeNoParse(t, text[:i]+"\n"+text[i:], api.ErrForm)
			seeNoParse(t, text[:i], api.ErrForm)
			seeNoParse(t, text[:i]+" "+text[i+1:], api.ErrForm)
			seeNoParse(t, text[:i]+"\r\n"+text[i+1:], api.ErrForm)
		}
	}
}

// F3: a word too many, too few, another one, in each place of each kind of line.
func TestParseOfWrongWords(t *testing.T) {
	for _, line := range rightLines() {
		words := strings.Split(line, " ")
		open := strings.HasPrefix(line, "clock m") || strings.HasPrefix(line, "device") // more numbers are right
		shortest := !open || line == "clock m 0" || line == "device 0 0 0 7"
		if !open {
			seeNoLine(t, line+" 0")
		}
		seeNoLine(t, line+" keep")
		seeNoLine(t, line+" -")
		for i := range words {
			if shortest || i == 0 {
				seeNoLine(t, strings.Join(slices.Delete(slices.Clone(words), i, i+1), " "))
			}
			for _, other := range []string{"x", "-1", "+1", "00", "1.", "0x0", "1e1", "1,", "1_0", "１", "\xff", "keeps", "kee", "Keep", "LOSE", "clocks", "Clock", "--", "oo", "O", "none", "\x80", "\x00"} {
				another := slices.Clone(words)
				another[i] = other
				seeNoLine(t, strings.Join(another, " "))
				seeNoLine(t, strings.Join(slices.Insert(slices.Clone(words), i, other), " "))
			}
		}
	}
	for _, line := range []string{"clock", "clock o", "clock p 0 1 1", "clock m", "clock d 0", "clock g", "clock 0", "clock x 0", "clock o5", "domain", "domain -", "domain - 0", "domain - - keep", "domain 0 keep",
		"domain - 0 1", "domain keep 0 -", "reset", "reset -", "reset keep", "device", "device 0 0 0", "device 0 0 0 -", "device - 0 0 0", "device 0 - 0 0", "device 0 0 - 0", "device 0 0 0 0 -", "reg", "reg 0", "reg keep", "reg keep 0", "reg - keep"} {
		seeNoLine(t, line)
	}
}

// F3: each byte at each place of a text, held against the slow one.
func TestParseOfEachByte(t *testing.T) {
	const text = "clock o 5\nclock m 0\ndomain - 0 lose\nreset 1\ndevice 0 0 0 7\nreg 3 keep\n"
	for i := range text {
		for b := range 256 {
			for _, changed := range []string{
				text[:i] + string([]byte{byte(b)}) + text[i+1:],
				text[:i] + string([]byte{byte(b)}) + text[i:],
			} {
				want, err := slowParse(changed)
				seeParse(t, changed, want, err)
			}
		}
		want, err := slowParse(text[:i] + text[i+1:])
		seeParse(t, text[:i]+text[i+1:], want, err)
		want, err = slowParse(text[:i])
		seeParse(t, text[:i], want, err)
	}
}

// F3: a reg ahead of any device is no line, whatever stands behind it.
func TestParseOfRegs(t *testing.T) {
	_, text := oneOfEach()
	seeNoParse(t, "reg 1 keep\n", api.ErrForm)
	seeNoParse(t, "reg 1 keep\n"+text, api.ErrForm)
	seeNoParse(t, "clock o 5\ndomain - 0 lose\nreset 1\nreg 3 keep\ndevice 0 0 0 7\n", api.ErrForm)
	want, _ := oneOfEach()
	seeParse(t, "device 0 0 0 7\nreg 3 keep\nclock o 5\ndomain - 0 lose\nreset 1\n", want, api.OK)
}

// F3: of texts whose lines are right just conf.Check's error is told, and of two the first one; a line that is none is told ahead of it.
func TestParseTellsTheFirst(t *testing.T) {
	_, right := oneOfEach()
	wrong := []struct { // in conf.Check's order
		text string
		err  api.Errno
	}{
		{strings.Repeat("clock o 5\n", 12), api.ErrFull},
		{strings.Repeat("domain - 0 lose\n", 6), api.ErrFull},
		{strings.Repeat("reset 1\n", 6), api.ErrFull},
		{strings.Repeat("device 0 0 0 7\n", 6), api.ErrFull},
		{"device 0 0 0 7 0 0 0 0 0 0 0\n", api.ErrFull},
		{"device 0 0 0 7\n" + strings.Repeat("reg 3 keep\n", 9), api.ErrFull},
		{"clock m 0 0 0 0 0\n", api.ErrArg},
		{"clock g 99\n", api.ErrNode},
		{"clock o 0\n", api.ErrRange},
		{"clock p 0 1 1 21\n", api.ErrRange},
		{"clock m 0 0 0 1\n", api.ErrCycle},
		{"domain 99 21 keep\n", api.ErrNode},
		{"domain - 21 keep\n", api.ErrRange},
		{"domain 1 0 keep\ndomain 2 0 keep\n", api.ErrCycle},
		{"reset 21\n", api.ErrRange},
		{"device 0 0 9 7\n", api.ErrNode},
		{"device 0 0 0 7 1 2\ndevice 0 0 0 7 1\n", api.ErrCycle},
	}
	for i, a := range wrong {
		seeNoParse(t, right+a.text, a.err)
		for _, none := range []string{"\n", "x\n", "reset\n", "reset 01\n", "reset 1", "device 0 0 0 4294967296\n", "clock g 0 \n", "\x00"} {
			seeNoParse(t, right+a.text+none, api.ErrForm)
		}
		seeNoParse(t, "reg 0 keep\n"+right+a.text, api.ErrForm)
		seeNoParse(t, right+a.text+strings.Repeat("reset 1\n", 1000), api.ErrForm)
		for _, b := range wrong[i+1:] {
			s, ok := slowLines(right + a.text + b.text)
			if err := conf.Check(s); !ok || err == api.OK {
				t.Errorf("%q and %q are right", a.text, b.text)
			}
			seeNoParse(t, right+a.text+b.text, conf.Check(s))
		}
	}
	seeNoParse(t, "clock g 9\nreset 21\n", api.ErrNode)
	seeNoParse(t, "reset 21\nclock g 9\n", api.ErrNode)
	seeNoParse(t, "device 0 0 0 0\ndomain - 21 keep\n", api.ErrRange)
}

// F4: what is printed is parsed the same, but for fields that its kinds have no use for; what was parsed, and is printed and parsed again, is the same.
func TestThereAndBack(t *testing.T) {
	r := rand.New(rand.NewSource(5))
	each, _ := oneOfEach()
	chips := []api.Soc{{}, each, chip(), greatest()}
	for range 2000 {
		chips = append(chips, randomChip(r))
	}
	for _, s := range chips {
		text, err := Print(s)
		if err != api.OK {
			t.Fatalf("Print(%s) = %d", show(s), err)
		}
		parsed, err := Parse(text)
		if !conf.Same(parsed, bare(s)) || err != api.OK {
			t.Errorf("%s is printed, and parsed as %s, %d", show(s), show(parsed), err)
		}
		seePrint(t, parsed, text)
		seeParse(t, text, parsed, api.OK)
	}
}

// F3: texts in which bytes, words or lines are changed, taken out, doubled or put elsewhere, held against the slow one; F4: those that are right, there and back.
func TestParseOfSpoiled(t *testing.T) {
	r := rand.New(rand.NewSource(6))
	told := map[api.Errno]int{}
	for range 40000 {
		text := slowPrint(randomChip(r))
		for range 1 + r.Intn(2) {
			text = spoil(r, text)
		}
		want, wantErr := slowParse(text)
		told[wantErr]++
		got, err := Parse(text)
		if show(got) != show(want) || err != wantErr {
			t.Fatalf("Parse(%q) = %s, %d, want %s, %d", text, show(got), err, show(want), wantErr)
		}
		if err != api.OK {
			continue
		}
		printed, _ := Print(got)
		if again, err := Parse(printed); !conf.Same(again, got) || err != api.OK {
			t.Fatalf("%q is parsed, printed as %q, and parsed as %s, %d", text, printed, show(again), err)
		}
	}
	for _, err := range []api.Errno{api.OK, api.ErrForm, api.ErrFull, api.ErrArg, api.ErrNode, api.ErrRange, api.ErrCycle} {
		if told[err] < 50 {
			t.Errorf("%d was told %d times only", err, told[err])
		}
	}
}

// spoil changes one thing in a text; what comes out may be right.
func spoil(r *rand.Rand, text string) string {
	const bytes = "\n\n  0123456789-opmdgkeeplosereg\t\r\x00\x7f\x80\xff+_.,"
	lines := []string{"clock o 1\n", "clock m 0 0 0 0 0\n", "domain - 0 keep\n", "reset 1\n", "device 0 0 0 0\n", "reg 1 keep\n"}
	some := []string{"0", "1", "2", "5", "12", "20", "21", "1000", "1001", "4294967295", "4294967296", "1099511627776", "1099511627777", "999999999999999", "1000000000000000", "00", "01", "-", "-1", "keep", "lose", "clock", "domain", "reset", "device", "reg", "o", "p", "m", "d", "g", "x", ""}
	switch r.Intn(4) {
	case 0:
		i := r.Intn(len(text))
		return text[:i] + bytes[r.Intn(len(bytes)):][:1] + text[i+r.Intn(2):]
	case 1:
		return strings.Join(shift(r, strings.SplitAfter(text, "\n"), lines[r.Intn(len(lines))]), "")
	}
	all := strings.Split(text, "\n")
	i := r.Intn(len(all))
	all[i] = strings.Join(shift(r, strings.Split(all[i], " "), some[r.Intn(len(some))]), " ")
	return strings.Join(all, "\n")
}

// shift takes one out, doubles it, puts another one in its place or ahead of it, or changes it with one that stands elsewhere.
func shift(r *rand.Rand, row []string, other string) []string {
	i, j := r.Intn(len(row)), r.Intn(len(row))
	switch r.Intn(5) {
	case 0:
		return slices.Delete(row, i, i+1)
	case 1:
		return slices.Insert(row, j, row[i])
	case 2:
		row[i] = other
	case 3:
		return slices.Insert(row, i, other)
	default:
		row[i], row[j] = row[j], row[i]
	}
	return row
}

// P1: any bytes end without a panic, and are told as the slow one tells them.
func TestParseOfAnything(t *testing.T) {
	r := rand.New(rand.NewSource(7))
	for range 20000 {
		text := make([]byte, r.Intn(40))
		r.Read(text)
		want, err := slowParse(string(text))
		seeParse(t, string(text), want, err)
	}
}

// intRows are all rows of numbers of a chip.
func intRows(s api.Soc) []*[]int {
	var all []*[]int
	for i := range s.Clocks {
		all = append(all, &s.Clocks[i].From)
	}
	for i := range s.Devices {
		all = append(all, &s.Devices[i].Needs)
	}
	return all
}

// P3: rows that are answered are new: one that is written into, up to its end, is neither another one of that answer nor one of a later one.
func TestParseAnswersNewRows(t *testing.T) {
	for _, text := range []string{chipText, slowPrint(greatest())} {
		want, _ := slowParse(text)
		for i := range intRows(want) {
			s, _ := Parse(text)
			row := *intRows(s)[i]
			for j := range row[:cap(row)] {
				row[:cap(row)][j] = -9
			}
			*intRows(s)[i] = *intRows(want)[i]
			if show(s) != show(want) {
				t.Errorf("row %d was written into: %s, was %s", i, show(s), show(want))
			}
		}
		for i := range want.Devices {
			s, _ := Parse(text)
			regs := s.Devices[i].Regs
			for j := range regs[:cap(regs)] {
				regs[:cap(regs)][j] = api.Reg{Reset: 9, Retained: true}
			}
			s.Devices[i].Regs = want.Devices[i].Regs
			if show(s) != show(want) {
				t.Errorf("registers of %d were written into: %s, was %s", i, show(s), show(want))
			}
		}
		seeParse(t, text, want, api.OK)
	}
}
