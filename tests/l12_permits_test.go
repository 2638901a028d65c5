package tests

import (
	"slices"
	"strings"
	"testing"

	"loop.example/powercontrol/impl"
)

// nobodyIsHurt checks that all permits are for lines that are off and earthed.
func nobodyIsHurt(t *testing.T, w impl.Work, told ...any) {
	t.Helper()
	for _, p := range w.Permits {
		check(t, !w.On[p.At] && w.Earth[p.At], append(told, w, p)...)
	}
}

func TestP13WhateverIsAskedNobodyWorksAtALineThatIsOn(t *testing.T) {
	runs, on, permits := 0, 0, 0
	eachWorkRun(func(w impl.Work, list []impl.WorkDeed) {
		after, done := impl.WorkRun(w, list)
		check(t, impl.WorkValid(after) && workHolds(after), w, list, after, done)
		check(t, len(after.On) == len(w.On), w, list, after)
		nobodyIsHurt(t, after, w, list)
		runs++
		if slices.Contains(after.On, true) {
			on++
		}
		if len(after.Permits) > 0 {
			permits++
		}
	})
	check(t, runs > 10000 && on > 1000 && permits > 1000, "too few", runs, on, permits)
}

func TestP13InTwoPartsIsAllAtOnce(t *testing.T) {
	bothParts := 0
	eachWorkRun(func(w impl.Work, list []impl.WorkDeed) {
		after, done := impl.WorkRun(w, list)
		// Of long lists some cuts are enough.
		for cut := 0; cut <= len(list); cut += 1 + len(list)/4 {
			half, first := impl.WorkRun(w, list[:cut])
			whole, second := impl.WorkRun(half, list[cut:])
			check(t, sameWork(whole, after) && first+second == done, w, list, cut, after, whole, done, first, second)
			if first > 0 && second > 0 {
				bothParts++
			}
		}
	})
	check(t, bothParts > 1000, "too few", bothParts)
}

// What may not be done is left out, and the deeds behind it are done.
func TestP13WorkRun(t *testing.T) {
	some, none, all := 0, 0, 0
	eachWorkRun(func(w impl.Work, list []impl.WorkDeed) {
		after, done := impl.WorkRun(w, list)
		want, many := afterAll(w, list, workAfter)
		check(t, sameWork(after, want) && done == many, w, list, after, done, want, many)
		switch done {
		case 0:
			none++
		case len(list):
			all++
		default:
			some++
		}
	})
	check(t, some > 1000 && none > 1000 && all > 100, "too few", some, none, all)
}

func TestP13WorkRunByHand(t *testing.T) {
	for _, x := range []struct {
		from  string
		deeds string
		to    string
		done  int
	}{
		{"1", "", "1", 0},
		{"1", "off 0, earth 0, issue 0 3", "e 3@0", 3},
		{"1", "issue 0 3, earth 0, off 0, issue 0 3, earth 0, on 0, issue 0 3", "e 3@0", 3},
		{"e 3@0", "on 0, clear 0, off 0, return 0 3, on 0, clear 0, on 0", "1", 3},
		// Two people at one line: it is earthed until the last one is back.
		{"e", "issue 0 3, issue 0 4, return 0 3, clear 0, on 0", "e 4@0", 3},
		{"e 3@0 4@0", "return 0 4, clear 0, return 0 3, clear 0, on 0", "1", 4},
		{"e 3@0 4@0", "return 0 3, issue 0 3, return 0 4, issue 0 4", "e 3@0 4@0", 4},
		{"e 3@0 4@0", "return 0 3, issue 0 3, return 0 3, issue 0 3", "e 4@0 3@0", 4},
		// One person at two lines: each permit is for its line alone.
		{"ee", "issue 0 3, issue 1 3, return 0 3, clear 0, clear 1, on 0, on 1", "1e 3@1", 5},
		{"ee 3@1 3@0", "return 1 3, return 1 3, clear 0, clear 1", "e0 3@0", 2},
		{"e1 3@0", "issue 1 3, off 1, issue 1 3, earth 1, issue 1 3, on 0", "ee 3@0 3@1", 3},
		// Two people at two lines.
		{"ee 3@0 4@1", "return 0 4, return 1 3, clear 0, clear 1, on 0, on 1", "ee 3@0 4@1", 0},
		{"ee 3@0 4@1", "issue 0 4, issue 1 3, return 0 3, return 1 4", "ee 4@0 3@1", 4},
		// With as many permits as there may be another one is only issued when one is returned.
		{"ee 0@0 1@0 2@0 3@0 4@0", "issue 1 0, issue 1 1, return 0 2, issue 1 1, issue 0 2", "ee 0@0 1@0 3@0 4@0 0@1 1@1", 3},
		{"0", "on 0, off 0, on 0, off 0, earth 0, clear 0, on 0", "1", 7},
	} {
		after, done := impl.WorkRun(work(x.from), workDeeds(x.deeds))
		check(t, sameWork(after, work(x.to)) && done == x.done, x, after, done)
	}
}

func TestP13NothingIsDoneOnWorkThatIsNotValid(t *testing.T) {
	lists := [][]impl.WorkDeed{nil, {}, workDeeds("off 0"), workDeeds("on 0"), workDeeds("return 0 3"), workDeeds("clear 0, on 0"), workDeeds("off 0, earth 0, issue 0 3")}
	for told, w := range badWork() {
		for _, list := range append(lists, deedAsks(work("e0"))) {
			after, done := impl.WorkRun(w, list)
			check(t, noWork(after) && done == 0, told, list, after, done)
		}
	}
}

func TestP14AllWorkEnds(t *testing.T) {
	longest := 0
	for _, w := range goodWork() {
		list := impl.WorkClose(w)
		at := w
		for k, d := range list {
			after, ok := impl.WorkDo(at, d)
			check(t, ok, "may not", w, list, k)
			at = after
		}
		after, done := impl.WorkRun(w, list)
		check(t, sameWork(after, at) && done == len(list), "run", w, list, after, done)
		check(t, sameWork(at, work(strings.Repeat("1", len(w.On)))), w, list, at)
		longest = max(longest, len(list))
	}
	check(t, longest > 20, "too few", longest)
}

// First all permits in the order of issue, then all that is earthed and all that is off by the lines.
func TestP14WorkClose(t *testing.T) {
	for _, w := range goodWork() {
		var want []impl.WorkDeed
		for _, p := range w.Permits {
			want = append(want, impl.WorkDeed{Kind: 5, At: p.At, Who: p.Who})
		}
		for line, earthed := range w.Earth {
			if earthed {
				want = append(want, impl.WorkDeed{Kind: 3, At: line})
			}
		}
		for line, on := range w.On {
			if !on {
				want = append(want, impl.WorkDeed{Kind: 0, At: line})
			}
		}
		list := impl.WorkClose(w)
		check(t, slices.Equal(list, want), w, list, want)
	}
}

func TestP14WorkCloseByHand(t *testing.T) {
	for from, deeds := range map[string]string{
		"1":                    "",
		"1111111111":           "",
		"0":                    "on 0",
		"e":                    "clear 0, on 0",
		"e 3@0":                "return 0 3, clear 0, on 0",
		"e 4@0 3@0":            "return 0 4, return 0 3, clear 0, on 0",
		"ee 3@1 3@0":           "return 1 3, return 0 3, clear 0, clear 1, on 0, on 1",
		"0e1e0":                "clear 1, clear 3, on 0, on 1, on 3, on 4",
		"0e1e0 9@3 0@1 8@3":    "return 3 9, return 1 0, return 3 8, clear 1, clear 3, on 0, on 1, on 3, on 4",
		"111111111e 0@9":       "return 9 0, clear 9, on 9",
		"e 9@0 8@0 7@0 6@0":    "return 0 9, return 0 8, return 0 7, return 0 6, clear 0, on 0",
		"ee 1@0 2@1 2@0 1@1 ":  "return 0 1, return 1 2, return 0 2, return 1 1, clear 0, clear 1, on 0, on 1",
		"0000000000":           "on 0, on 1, on 2, on 3, on 4, on 5, on 6, on 7, on 8, on 9",
		"01e":                  "clear 2, on 0, on 2",
		"eee 0@2 0@1 0@0 9@1 ": "return 2 0, return 1 0, return 0 0, return 1 9, clear 0, clear 1, clear 2, on 0, on 1, on 2",
	} {
		list := impl.WorkClose(work(from))
		check(t, slices.Equal(list, workDeeds(deeds)), from, list, deeds)
	}
}

func TestP14NothingIsClosedOfOtherWork(t *testing.T) {
	for told, w := range badWork() {
		list := impl.WorkClose(w)
		check(t, list == nil, told, list)
	}
}

func TestP101NobodyWorksAtALineThatIsOn(t *testing.T) {
	held, on := 0, 0
	for _, w := range goodWork() {
		check(t, impl.WorkValid(w), w)
		nobodyIsHurt(t, w)
		for line := range w.On {
			list := impl.WorkHeld(w, line)
			check(t, !w.On[line] || len(list) == 0, w, line, list)
			held += len(list)
			// Switched on instead, the line that is worked at makes the work not valid.
			other := copyOfWork(w)
			other.On[line], other.Earth[line] = true, false
			check(t, impl.WorkValid(other) == (len(list) == 0), w, line)
			if w.On[line] {
				on++
			}
		}
	}
	check(t, held > 1000 && on > 100, "too few", held, on)
}

func TestP101WithoutPermitsItIsValid(t *testing.T) {
	for _, w := range goodWork() {
		w.Permits = nil
		check(t, impl.WorkValid(w), w)
		w.Permits = []impl.Permit{}
		check(t, impl.WorkValid(w), "empty", w)
	}
}

// With any permits left out work stays valid.
func TestP101WithFewerPermitsItIsValid(t *testing.T) {
	for _, w := range goodWork() {
		for k := range w.Permits {
			fewer := copyOfWork(w)
			fewer.Permits = slices.Delete(fewer.Permits, k, k+1)
			check(t, impl.WorkValid(fewer), w, fewer)
		}
	}
}

// All work of up to three lines and up to two permits, each with what may be or a little past it.
func TestP101WorkValid(t *testing.T) {
	people := []int{-1, 0, 9, 10}
	valid, not := 0, 0
	try := func(w impl.Work) {
		t.Helper()
		ok := impl.WorkValid(w)
		check(t, ok == workHolds(w), w, ok)
		if ok {
			valid++
		} else {
			not++
		}
	}
	for lines := range 4 {
		var one []impl.Permit
		for line := -1; line <= lines; line++ {
			for _, who := range people {
				one = append(one, impl.Permit{Who: who, At: line})
			}
		}
		for _, on := range allStates(lines) {
			for _, earth := range slices.Concat(allStates(lines), allStates(lines+1), allStates(max(lines-1, 0))) {
				try(impl.Work{On: on, Earth: earth})
				for _, p := range one {
					try(impl.Work{On: on, Earth: earth, Permits: []impl.Permit{p}})
					for _, q := range one {
						try(impl.Work{On: on, Earth: earth, Permits: []impl.Permit{p, q}})
					}
				}
			}
		}
	}
	// With e lines that are earthed there are 1, 2e and 2e(2e-1) lists of no, one and two permits of two people.
	check(t, valid == 7+41+207 && not > 10000, valid, not)
}

func TestP101Bounds(t *testing.T) {
	check(t, impl.MaxPermits == 6 && impl.MaxLines == 10, impl.MaxPermits, impl.MaxLines)
	check(t, impl.WorkOn == 0 && impl.WorkOff == 1 && impl.WorkEarth == 2 && impl.WorkClear == 3 && impl.WorkIssue == 4 && impl.WorkReturn == 5, "kinds")
	for lines := 1; lines < 30; lines++ {
		for _, letter := range []string{"0", "1", "e"} {
			w := work(strings.Repeat(letter, lines))
			check(t, impl.WorkValid(w) == (lines <= 10), w)
		}
	}
	for permits := range 11 {
		w := work("e")
		for who := range permits {
			w.Permits = append(w.Permits, impl.Permit{Who: who})
		}
		check(t, impl.WorkValid(w) == (permits <= 6), w)
		w = work("eeeeeeeeee")
		for line := range permits {
			w.Permits = append(w.Permits, impl.Permit{Who: 9, At: line})
		}
		check(t, impl.WorkValid(w) == (permits <= 6), w)
	}
	for x := -20; x <= 40; x++ {
		w := work("eee")
		w.Permits = []impl.Permit{{Who: x, At: 1}}
		check(t, impl.WorkValid(w) == (0 <= x && x <= 9), w)
		w.Permits = []impl.Permit{{Who: 1, At: x}}
		check(t, impl.WorkValid(w) == (0 <= x && x <= 2), w)
	}
	for told, w := range badWork() {
		check(t, !impl.WorkValid(w), told, w)
	}
}

func TestP102WhileSomebodyWorksTheEarthStays(t *testing.T) {
	held := 0
	for _, w := range goodWork() {
		for line := range w.On {
			people := impl.WorkHeld(w, line)
			if len(people) == 0 {
				continue
			}
			held++
			for _, kind := range []int{impl.WorkOn, impl.WorkClear, impl.WorkOff, impl.WorkEarth} {
				for who := range 11 {
					after, ok := impl.WorkDo(w, impl.WorkDeed{Kind: kind, At: line, Who: who})
					check(t, !ok && sameWork(after, w), w, line, kind, who, after)
				}
			}
			for _, who := range people {
				after, ok := impl.WorkDo(w, impl.WorkDeed{Kind: impl.WorkReturn, At: line, Who: who})
				check(t, ok && after.Earth[line] && len(after.Permits) == len(w.Permits)-1, "return", w, line, who, after)
				check(t, !slices.Contains(impl.WorkHeld(after, line), who), "still there", w, line, who, after)
			}
		}
	}
	check(t, held > 1000, "too few", held)
}

// Only when the last one has returned it can be cleared.
func TestP102AllMustReturnFirst(t *testing.T) {
	for _, w := range goodWork() {
		for line := range w.On {
			at := w
			people := impl.WorkHeld(w, line)
			for _, who := range people {
				_, ok := impl.WorkDo(at, impl.WorkDeed{Kind: impl.WorkClear, At: line})
				check(t, !ok, "cleared", w, line, at)
				at, ok = impl.WorkDo(at, impl.WorkDeed{Kind: impl.WorkReturn, At: line, Who: who})
				check(t, ok, "return", w, line, who, at)
			}
			after, ok := impl.WorkDo(at, impl.WorkDeed{Kind: impl.WorkClear, At: line})
			check(t, ok == w.Earth[line] && !after.Earth[line], "not cleared", w, line, at, after)
		}
	}
}

func TestP102WorkHeld(t *testing.T) {
	for _, w := range goodWork() {
		many := 0
		for line := range w.On {
			var want []int
			for _, p := range w.Permits {
				if p.At == line {
					want = append(want, p.Who)
				}
			}
			list := impl.WorkHeld(w, line)
			check(t, slices.Equal(list, want), w, line, list, want)
			many += len(list)
		}
		check(t, many == len(w.Permits), w, many)
	}
}

func TestP102WorkHeldByHand(t *testing.T) {
	for _, x := range []struct {
		from string
		line int
		list []int
	}{
		{"1", 0, nil},
		{"0", 0, nil},
		{"e", 0, nil},
		{"e 3@0", 0, []int{3}},
		{"e 4@0 3@0", 0, []int{4, 3}},
		{"e 3@0 4@0", 0, []int{3, 4}},
		{"ee 3@1 3@0", 0, []int{3}},
		{"ee 3@1 3@0", 1, []int{3}},
		{"eee 9@2 0@0 7@2 8@0 0@2 5@2", 2, []int{9, 7, 0, 5}},
		{"eee 9@2 0@0 7@2 8@0 0@2 5@2", 0, []int{0, 8}},
		{"eee 9@2 0@0 7@2 8@0 0@2 5@2", 1, nil},
		{"eeeeeeeeee 1@9 1@0", 9, []int{1}},
	} {
		list := impl.WorkHeld(work(x.from), x.line)
		check(t, slices.Equal(list, x.list), x, list)
	}
}

func TestP102NobodyHoldsOtherLines(t *testing.T) {
	for _, w := range goodWork() {
		for _, line := range append([]int{-1, -2, -len(w.On), len(w.On), len(w.On) + 1, 64, 256, 1 << 32}, farNumbers...) {
			list := impl.WorkHeld(w, line)
			check(t, list == nil, w, line, list)
		}
	}
	for told, w := range badWork() {
		for line := -1; line <= 12; line++ {
			list := impl.WorkHeld(w, line)
			check(t, list == nil, told, line, list)
		}
	}
}

func TestP103DeedsKeepWorkValid(t *testing.T) {
	done, refused := 0, 0
	for _, w := range goodWork() {
		for _, d := range deedAsks(w) {
			after, ok := impl.WorkDo(w, d)
			check(t, impl.WorkValid(after), w, d, after)
			check(t, ok != sameWork(after, w), "another one exactly if it was done", w, d, after, ok)
			if ok {
				done++
			} else {
				refused++
			}
		}
	}
	check(t, done > 1000 && refused > 10000, "too few", done, refused)
}

// Exactly what the deed tells is changed, and exactly when it may be.
func TestP103WorkDo(t *testing.T) {
	many := [6]int{}
	for _, w := range goodWork() {
		for _, d := range deedAsks(w) {
			after, ok := impl.WorkDo(w, d)
			want, may := workAfter(w, d)
			check(t, ok == may && sameWork(after, want), w, d, after, ok, want, may)
			if ok {
				many[d.Kind]++
			}
		}
	}
	for kind, n := range many {
		check(t, n > 1000, "too few", kind, n)
	}
}

func TestP103WorkDoByHand(t *testing.T) {
	full := "ee 0@0 1@0 2@0 3@0 4@0 5@0"
	for _, x := range []struct {
		from string
		deed string
		to   string
		ok   bool
	}{
		// Of a line that is off, on, and earthed.
		{"0", "on 0", "1", true},
		{"1", "on 0", "1", false},
		{"e", "on 0", "e", false},
		{"0", "off 0", "0", false},
		{"1", "off 0", "0", true},
		{"e", "off 0", "e", false},
		{"0", "earth 0", "e", true},
		{"1", "earth 0", "1", false},
		{"e", "earth 0", "e", false},
		{"0", "clear 0", "0", false},
		{"1", "clear 0", "1", false},
		{"e", "clear 0", "0", true},
		{"0", "issue 0 3", "0", false},
		{"1", "issue 0 3", "1", false},
		{"e", "issue 0 3", "e 3@0", true},
		{"0", "return 0 3", "0", false},
		{"1", "return 0 3", "1", false},
		{"e", "return 0 3", "e", false},
		// With a permit.
		{"e 3@0", "on 0", "e 3@0", false},
		{"e 3@0", "clear 0", "e 3@0", false},
		{"e 3@0", "clear 0 3", "e 3@0", false},
		{"e 3@0", "clear 0 4", "e 3@0", false},
		{"e 3@0", "issue 0 3", "e 3@0", false},
		{"e 3@0", "issue 0 4", "e 3@0 4@0", true},
		{"e 3@0", "issue 0 0", "e 3@0 0@0", true},
		{"e 3@0", "return 0 3", "e", true},
		{"e 3@0", "return 0 4", "e 3@0", false},
		// Another line is not in the way.
		{"ee 3@1", "clear 0", "0e 3@1", true},
		{"ee 3@1", "clear 1", "ee 3@1", false},
		{"ee 3@1", "issue 0 3", "ee 3@1 3@0", true},
		{"ee 3@1", "return 0 3", "ee 3@1", false},
		{"0e 3@1", "on 0", "1e 3@1", true},
		{"1e 3@1", "off 0", "0e 3@1", true},
		{"0e 3@1", "earth 0", "ee 3@1", true},
		// The one that is returned is left out, the others keep their order.
		{"ee 5@0 4@1 3@0", "return 0 5", "ee 4@1 3@0", true},
		{"ee 5@0 4@1 3@0", "return 1 4", "ee 5@0 3@0", true},
		{"ee 5@0 4@1 3@0", "return 0 3", "ee 5@0 4@1", true},
		{"ee 5@0 4@1 3@0", "issue 1 5", "ee 5@0 4@1 3@0 5@1", true},
		// As many permits as there may be.
		{full, "issue 0 6", full, false},
		{full, "issue 1 0", full, false},
		{full, "issue 0 0", full, false},
		{full, "clear 1", "e0 0@0 1@0 2@0 3@0 4@0 5@0", true},
		{full, "return 0 5", "ee 0@0 1@0 2@0 3@0 4@0", true},
		{"ee 0@0 1@0 2@0 3@0 4@0", "issue 0 5", full, true},
		// Who is bounded, and only looked at for permits.
		{"e", "issue 0 0", "e 0@0", true},
		{"e", "issue 0 9", "e 9@0", true},
		{"e", "issue 0 10", "e", false},
		{"e", "issue 0 -1", "e", false},
		{"0", "on 0 -1", "1", true},
		{"1", "off 0 10", "0", true},
		{"0", "earth 0 99", "e", true},
		{"e", "clear 0 -99", "0", true},
		// The last line that there may be, and lines that there are not.
		{"000000000e", "issue 9 9", "000000000e 9@9", true},
		{"0000000000", "on 9", "0000000001", true},
		{"0", "on 1", "0", false},
		{"0", "earth 1", "0", false},
		{"e", "issue 1 3", "e", false},
		{"e 3@0", "return 1 3", "e 3@0", false},
		{"1", "off -1", "1", false},
	} {
		after, ok := impl.WorkDo(work(x.from), workDeed(x.deed))
		check(t, sameWork(after, work(x.to)) && ok == x.ok, x, after, ok)
	}
}

func TestP103NothingIsDoneOnWorkThatIsNotValid(t *testing.T) {
	asks := deedAsks(work("ee"))
	for told, w := range badWork() {
		for _, d := range asks {
			after, ok := impl.WorkDo(w, d)
			check(t, noWork(after) && !ok, told, d, after, ok)
		}
	}
}

// spoilWork overwrites all parts of a result with their spare capacity.
func spoilWork(w impl.Work) {
	spoil(w.On)
	spoil(w.Earth)
	for k := range w.Permits[:cap(w.Permits)] {
		w.Permits[:cap(w.Permits)][k] = impl.Permit{Who: -7, At: -7}
	}
}

// apartFrom is work in memory that goes on behind its parts, and a function that reports whether this memory is as it was.
func apartFrom(w impl.Work) (impl.Work, func() bool) {
	on, earth := append(slices.Clone(w.On), true, false, true), append(slices.Clone(w.Earth), false, true, false)
	permits := append(slices.Clone(w.Permits), impl.Permit{Who: 7, At: 7}, impl.Permit{Who: 8, At: 8})
	onBefore, earthBefore, permitsBefore := slices.Clone(on), slices.Clone(earth), slices.Clone(permits)
	given := impl.Work{On: on[:len(w.On)], Earth: earth[:len(w.Earth)], Permits: permits[:len(w.Permits)]}
	return given, func() bool {
		return slices.Equal(on, onBefore) && slices.Equal(earth, earthBefore) && slices.Equal(permits, permitsBefore)
	}
}

// Results share no memory with an argument or with each other: what is written into one, also behind its end, is not seen in them.
func TestWorkIsNewEachTime(t *testing.T) {
	for _, s := range []string{"1", "0", "e", "e 3@0", "ee 3@0 3@1 4@0", "0e1 5@1 6@1", "ee 0@0 1@0 2@0 3@0 4@0 5@1"} {
		given, asBefore := apartFrom(work(s))
		lists := [][]impl.WorkDeed{nil, workDeeds("on 9"), workDeeds("off 0, earth 0, issue 0 3, issue 0 8"), impl.WorkClose(given)}
		for _, d := range deedAsks(given) {
			lists = append(lists, []impl.WorkDeed{d})
		}
		for _, list := range lists {
			asked := append(slices.Clone(list), impl.WorkDeed{Kind: 9})
			listBefore := slices.Clone(asked)
			first, done := impl.WorkRun(given, asked[:len(list)])
			want := copyOfWork(first)
			spoilWork(first)
			again, same := impl.WorkRun(given, asked[:len(list)])
			check(t, sameWork(again, want) && same == done, "run", s, list, want, again)
			check(t, asBefore() && slices.Equal(asked, listBefore), "an argument was written to", s, list)
			for _, d := range list {
				first, _ := impl.WorkDo(given, d)
				want := copyOfWork(first)
				spoilWork(first)
				again, _ := impl.WorkDo(given, d)
				check(t, sameWork(again, want) && asBefore(), "do", s, d, want, again)
			}
		}
		for line := range given.On {
			held := impl.WorkHeld(given, line)
			want := slices.Clone(held)
			spoilNumbers(held)
			check(t, slices.Equal(impl.WorkHeld(given, line), want) && asBefore(), "held", s, line, want)
		}
		list := impl.WorkClose(given)
		want := slices.Clone(list)
		for k := range list[:cap(list)] {
			list[:cap(list)][k] = impl.WorkDeed{Kind: -7}
		}
		check(t, slices.Equal(impl.WorkClose(given), want) && asBefore(), "close", s, want)
	}
}
