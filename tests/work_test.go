package tests

import (
	"math/rand"
	"slices"
	"strconv"
	"strings"

	"loop.example/powercontrol/impl"
)

// work is work whose lines are what the letters of a text tell: 1 is on, 0 is off, e is earthed, and b is both on and earthed; behind them the permits, each with who, an @ and the line.
func work(s string) impl.Work {
	words := strings.Fields(s)
	w := impl.Work{}
	for _, letter := range words[0] {
		w.On = append(w.On, letter == '1' || letter == 'b')
		w.Earth = append(w.Earth, letter == 'e' || letter == 'b')
	}
	for _, word := range words[1:] {
		who, at, _ := strings.Cut(word, "@")
		w.Permits = append(w.Permits, impl.Permit{Who: mustNumber(who), At: mustNumber(at)})
	}
	return w
}

func mustNumber(word string) int {
	x, err := strconv.Atoi(word)
	if err != nil {
		panic(err)
	}
	return x
}

// workKinds are the kinds of deeds by their words.
var workKinds = map[string]int{"on": impl.WorkOn, "off": impl.WorkOff, "earth": impl.WorkEarth, "clear": impl.WorkClear, "issue": impl.WorkIssue, "return": impl.WorkReturn}

// workDeed is the deed that a text tells: its word, the line, and who, if this is looked at.
func workDeed(s string) impl.WorkDeed {
	words := strings.Fields(s)
	kind, known := workKinds[words[0]]
	if !known {
		panic(s)
	}
	d := impl.WorkDeed{Kind: kind, At: mustNumber(words[1])}
	if len(words) > 2 {
		d.Who = mustNumber(words[2])
	}
	return d
}

// workDeeds are the deeds that a text tells, with commas between them.
func workDeeds(s string) []impl.WorkDeed {
	var list []impl.WorkDeed
	for _, told := range strings.Split(s, ",") {
		if told != "" {
			list = append(list, workDeed(told))
		}
	}
	return list
}

func copyOfWork(w impl.Work) impl.Work {
	return impl.Work{On: slices.Clone(w.On), Earth: slices.Clone(w.Earth), Permits: slices.Clone(w.Permits)}
}

func sameWork(a impl.Work, b impl.Work) bool {
	return slices.Equal(a.On, b.On) && slices.Equal(a.Earth, b.Earth) && slices.Equal(a.Permits, b.Permits)
}

func noWork(w impl.Work) bool {
	return w.On == nil && w.Earth == nil && w.Permits == nil
}

// workHolds reports whether work is valid, as the document has it.
func workHolds(w impl.Work) bool {
	if len(w.On) != len(w.Earth) || len(w.On) == 0 || len(w.On) > 10 || len(w.Permits) > 6 {
		return false
	}
	for line := range w.On {
		if w.On[line] && w.Earth[line] {
			return false
		}
	}
	for k, p := range w.Permits {
		if p.Who < 0 || p.Who > 9 || p.At < 0 || p.At >= len(w.On) || !w.Earth[p.At] {
			return false
		}
		for _, other := range w.Permits[:k] {
			if other == p {
				return false
			}
		}
	}
	return true
}

// workAfter is valid work after a deed and true, or as it was and false if it may not be done, as the document has it, deed by deed.
func workAfter(w impl.Work, d impl.WorkDeed) (impl.Work, bool) {
	after := copyOfWork(w)
	if d.At < 0 || d.At >= len(w.On) {
		return after, false
	}
	on, earthed := w.On[d.At], w.Earth[d.At]
	held, same := 0, -1
	for k, p := range w.Permits {
		if p.At == d.At {
			held++
			if p.Who == d.Who {
				same = k
			}
		}
	}
	switch {
	case d.Kind == impl.WorkOn && !on && !earthed:
		after.On[d.At] = true
	case d.Kind == impl.WorkOff && on:
		after.On[d.At] = false
	case d.Kind == impl.WorkEarth && !on && !earthed:
		after.Earth[d.At] = true
	case d.Kind == impl.WorkClear && earthed && held == 0:
		after.Earth[d.At] = false
	case d.Kind == impl.WorkIssue && earthed && same < 0 && 0 <= d.Who && d.Who <= 9 && len(w.Permits) < 6:
		after.Permits = append(after.Permits, impl.Permit{Who: d.Who, At: d.At})
	case d.Kind == impl.WorkReturn && same >= 0:
		after.Permits = append(slices.Clone(w.Permits[:same]), w.Permits[same+1:]...)
	default:
		return after, false
	}
	return after, true
}

// smallWork is all valid work with one or two lines and at most three permits of the people 0, 1 and 9, in every order of issue.
func smallWork() []impl.Work {
	var list []impl.Work
	for _, lines := range []string{"0", "1", "e", "00", "01", "0e", "10", "11", "1e", "e0", "e1", "ee"} {
		some := []impl.Work{work(lines)}
		for range 4 {
			list = append(list, some...)
			var more []impl.Work
			for _, w := range some {
				more = append(more, withOneMore(w)...)
			}
			some = more
		}
	}
	return list
}

// withOneMore is valid work with each one more permit of the people 0, 1 and 9 that there may be.
func withOneMore(w impl.Work) []impl.Work {
	var list []impl.Work
	for line := range w.On {
		for _, who := range []int{0, 1, 9} {
			p := impl.Permit{Who: who, At: line}
			if w.Earth[line] && !slices.Contains(w.Permits, p) {
				more := copyOfWork(w)
				more.Permits = append(more.Permits, p)
				list = append(list, more)
			}
		}
	}
	return list
}

// anyWork is valid work by chance, the same one for the same seed, with every number of lines and of permits; many of these are for one line or of one person.
func anyWork(seed int64) impl.Work {
	r := rand.New(rand.NewSource(seed))
	w := impl.Work{}
	var earthed []int
	for line := range 1 + int(seed)%impl.MaxLines {
		kind := r.Intn(4)
		w.On = append(w.On, kind == 0)
		w.Earth = append(w.Earth, kind > 1)
		if kind > 1 {
			earthed = append(earthed, line)
		}
	}
	people := 1 + r.Intn(10)
	for range r.Intn(2 * impl.MaxPermits) {
		if len(earthed) == 0 || len(w.Permits) == impl.MaxPermits {
			break
		}
		p := impl.Permit{Who: r.Intn(people), At: earthed[r.Intn(len(earthed))]}
		if !slices.Contains(w.Permits, p) {
			w.Permits = append(w.Permits, p)
		}
	}
	return w
}

// goodWork is valid work: all that is small, with as many permits as there may be, and much by chance.
func goodWork() []impl.Work {
	list := append(smallWork(),
		work("e 0@0 1@0 2@0 3@0 4@0 9@0"), work("e0 9@0 8@0 7@0 6@0 5@0 4@0"), work("1eeeeee 5@1 5@2 5@3 5@6 5@5 5@4"), work("eeeeeeeeee 9@9 0@0 9@0 0@9 5@5 4@5"),
		work("eee 1@0 2@0 1@1 2@1 1@2 2@2"), work("eeeeeeeeee"), work("1111111111"), work("0000000000"), work("000000000e 3@9"), work("e111111111 0@0"))
	for seed := range int64(600) {
		list = append(list, anyWork(seed))
	}
	return list
}

// badWork is work that is not valid, each for one reason.
func badWork() map[string]impl.Work {
	list := map[string]impl.Work{
		"nothing":                    {},
		"no lines, empty":            {On: []bool{}, Earth: []bool{}, Permits: []impl.Permit{}},
		"no lines, a permit":         {Permits: []impl.Permit{{}}},
		"On alone":                   {On: []bool{false}},
		"Earth alone":                {Earth: []bool{true}},
		"Earth alone, a permit":      {Earth: []bool{true}, Permits: []impl.Permit{{}}},
		"more in On":                 {On: []bool{false, false}, Earth: []bool{false}},
		"more in Earth":              {On: []bool{false}, Earth: []bool{false, true}},
		"more in Earth, for a line":  {On: []bool{false}, Earth: []bool{false, true}, Permits: []impl.Permit{{At: 1}}},
		"ten in On, eleven in Earth": {On: make([]bool, 10), Earth: make([]bool, 11)},
		"eleven in On, ten in Earth": {On: make([]bool, 11), Earth: make([]bool, 10)},
		"seven permits":              work("ee 0@0 1@0 2@0 3@0 4@0 5@0 0@1"),
		"seven permits for seven":    work("eeeeeee 0@0 0@1 0@2 0@3 0@4 0@5 0@6"),
		"equal permits":              work("e 3@0 3@0"),
		"equal permits, apart":       work("ee 3@0 3@1 4@0 4@1 3@0"),
		"equal permits at the end":   work("ee 3@0 3@1 4@0 4@1 5@0 5@0"),
		"a line off":                 work("0 3@0"),
		"a line on":                  work("1 3@0"),
		"the second one off":         work("ee0 3@0 3@2"),
		"the second one on":          work("1ee 3@2 3@0"),
	}
	for _, lines := range []int{11, 12, 31, 32, 64, 65, 300} {
		for _, letter := range []string{"0", "1", "e"} {
			list[text(lines)+" lines "+letter] = work(strings.Repeat(letter, lines))
		}
		list[text(lines)+" lines and a permit"] = work(strings.Repeat("e", lines) + " 3@0")
	}
	for lines := 1; lines <= impl.MaxLines; lines++ {
		for line := range lines {
			w := work(strings.Repeat("e", lines))
			w.On[line] = true
			list["both "+text(lines, line)] = w
		}
	}
	for told, x := range map[string]int{"before": -1, "far before": -10, "behind": 10, "2^32 behind": 1 << 32, "first": farNumbers[0], "thousand": farNumbers[1], "last": farNumbers[2]} {
		for _, w := range []impl.Work{work("e"), work("eee 3@0 4@1"), work("eeeeeeeeee 0@0 1@1 2@2 3@3 4@4")} {
			wrong := impl.Permit{Who: x, At: 0}
			list["who "+told+" "+text(len(w.On))] = impl.Work{On: w.On, Earth: w.Earth, Permits: append(slices.Clone(w.Permits), wrong)}
			wrong = impl.Permit{Who: 8, At: x}
			list["at "+told+" "+text(len(w.On))] = impl.Work{On: w.On, Earth: w.Earth, Permits: append([]impl.Permit{wrong}, w.Permits...)}
			wrong = impl.Permit{Who: 8, At: len(w.On)}
			list["at the end "+text(len(w.On))] = impl.Work{On: w.On, Earth: w.Earth, Permits: append([]impl.Permit{wrong}, w.Permits...)}
		}
	}
	return list
}

// deedAsks are all deeds with each line of work by some people, and others that are none: of kinds that there are not, of lines that there are not, and by people that there are not.
func deedAsks(w impl.Work) []impl.WorkDeed {
	var list []impl.WorkDeed
	kinds := append([]int{-1, 0, 1, 2, 3, 4, 5, 6, 7, 8, 256, 1 << 32}, farNumbers...)
	lines := append([]int{-1, len(w.On), 64, 1 << 32}, farNumbers...)
	for line := range w.On {
		lines = append(lines, line)
	}
	for _, kind := range kinds {
		for _, line := range lines {
			for _, who := range []int{-1, 0, 1, 5, 9, 10} {
				list = append(list, impl.WorkDeed{Kind: kind, At: line, Who: who})
			}
		}
	}
	for _, who := range append([]int{256, 1 << 32, 1<<32 + 1}, farNumbers...) {
		for kind := range 6 {
			list = append(list, impl.WorkDeed{Kind: kind, At: 0, Who: who})
		}
	}
	return list
}

// someWorkDeeds are deeds by chance, the same ones for the same seed, by few people and with few lines, so that many may be done; some may never be.
func someWorkDeeds(seed int64, lines int) []impl.WorkDeed {
	r := rand.New(rand.NewSource(seed))
	people, few := 1+r.Intn(10), 1+r.Intn(lines)
	list := []impl.WorkDeed{}
	for range r.Intn(100) {
		d := impl.WorkDeed{Kind: r.Intn(6), At: r.Intn(few), Who: r.Intn(people)}
		switch r.Intn(20) {
		case 0:
			d.Kind = r.Intn(10) - 2
		case 1:
			d.At = r.Intn(lines+3) - 1
		case 2:
			d.Who = r.Intn(13) - 1
		}
		list = append(list, d)
	}
	return list
}

// eachWorkRun calls a function for many lists of deeds and valid work: all pairs of deeds for one line, and lists by chance.
func eachWorkRun(do func(w impl.Work, list []impl.WorkDeed)) {
	for k, w := range goodWork() {
		do(w, nil)
		do(w, deedAsks(w))
		for seed := range int64(4) {
			do(w, someWorkDeeds(int64(k)*10+seed, len(w.On)))
		}
	}
	for _, s := range []string{"0", "1", "e", "e 0@0", "e 1@0", "e 0@0 1@0", "e 1@0 0@0"} {
		asks := deedAsks(work(s))
		for _, first := range asks {
			if first.Kind < -1 || first.Kind > 6 || first.At < -1 || first.At > 1 {
				continue
			}
			for _, second := range asks {
				do(work(s), []impl.WorkDeed{first, second})
			}
		}
	}
}
