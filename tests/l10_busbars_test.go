package tests

import (
	"slices"
	"testing"

	"loop.example/powercontrol/impl"
)

func TestP11WhateverIsAskedTheBarsAreValid(t *testing.T) {
	runs, closed, open := 0, 0, 0
	eachBarsRun(func(b impl.Bars, deeds []int) {
		after, done := impl.BarsRun(b, deeds)
		check(t, impl.BarsValid(after) && barsHold(after), b, deeds, after, done)
		check(t, len(after.Sides) == len(b.Sides), b, deeds, after)
		for _, side := range after.Sides {
			check(t, side == 1 || side == 2 || side == 3 && after.Coupler, "no bar, or joined by a bay alone", b, deeds, after)
		}
		runs++
		if after.Coupler {
			closed++
		} else {
			open++
		}
	})
	check(t, runs > 10000 && closed > 1000 && open > 1000, "too few", runs, closed, open)
}

func TestP11InTwoPartsIsAllAtOnce(t *testing.T) {
	bothParts := 0
	eachBarsRun(func(b impl.Bars, deeds []int) {
		after, done := impl.BarsRun(b, deeds)
		for cut := range len(deeds) + 1 {
			// Of long lists some cuts are enough.
			if len(deeds) > 3 && cut%7 != 0 {
				continue
			}
			half, first := impl.BarsRun(b, deeds[:cut])
			whole, second := impl.BarsRun(half, deeds[cut:])
			check(t, sameBars(whole, after) && first+second == done, b, deeds, cut, after, whole, done, first, second)
			if first > 0 && second > 0 {
				bothParts++
			}
		}
	})
	check(t, bothParts > 1000, "too few", bothParts)
}

// What may not be done is left out, and the deeds behind it are done.
func TestP11BarsRun(t *testing.T) {
	some, none, all := 0, 0, 0
	eachBarsRun(func(b impl.Bars, deeds []int) {
		after, done := impl.BarsRun(b, deeds)
		want, many := afterAll(b, deeds, barsAfter)
		check(t, sameBars(after, want) && done == many, b, deeds, after, done, want, many)
		switch done {
		case 0:
			none++
		case len(deeds):
			all++
		default:
			some++
		}
	})
	check(t, some > 1000 && none > 100 && all > 100, "too few", some, none, all)
}

func TestP11BarsRunByHand(t *testing.T) {
	for _, x := range []struct {
		from  string
		deeds []int
		to    string
		done  int
	}{
		{"1", nil, "1", 0},
		{"123+", []int{}, "123+", 0},
		{"121", []int{1, 5, 2, 0}, "221", 4},
		// Without the coupler no bay can be moved.
		{"121", []int{5, 2}, "121", 0},
		{"121", []int{2, 8, 10, 3, 9, 5, 7}, "121", 0},
		// What may not be done is left out: the last isolator, the one already closed, the coupler while a bay is on both.
		{"1+", []int{2, 3, 5, 0, 2, 0}, "2", 3},
		{"12", []int{1, 1, 5, 0, 7, 0, 8, 2, 0}, "21", 6},
		{"3+", []int{0, 2, 4, 0}, "2", 2},
		{"3+", []int{0, 4, 2, 0}, "1", 2},
		{"33+", []int{2, 0, 8, 0}, "21", 3},
		{"33+", []int{2, 0, 6, 0}, "22", 3},
		{"13+", []int{0, 1, 0}, "13+", 0},
		{"1+", []int{0, 1, 0, 1, 0}, "1", 5},
		// Numbers that are no deeds, and deeds of bays that are not there.
		{"1", []int{-1, 1, -2, 6, 5, 7, 2, 8, 9, 0}, "2", 4},
		// The last of six bays, whose deeds are 22 to 25.
		{"111111", []int{1, 25, 22, 0}, "111112", 4},
		{"222222", []int{26, 1, 23, 24, 27, 0}, "222221", 4},
		{"333333+", []int{2, 8, 10, 16, 18, 24, 0}, "212121", 7},
	} {
		after, done := impl.BarsRun(bars(x.from), x.deeds)
		check(t, sameBars(after, bars(x.to)) && done == x.done, x, after, done)
	}
}

func TestP11NothingIsRunOnBarsThatAreNotValid(t *testing.T) {
	for told, b := range badBars() {
		for _, deeds := range [][]int{nil, {0}, {1}, {1, 3, 5, 2, 0}, {0, 1, 0}, {-1}, {2, 4, 6, 8}} {
			after, done := impl.BarsRun(b, deeds)
			check(t, after.Sides == nil && !after.Coupler && done == 0, told, deeds, after, done)
		}
	}
}

func TestP12ABarCanBeEmptied(t *testing.T) {
	longest := 0
	for _, b := range validBars() {
		for _, bar := range []int{1, 2} {
			list := impl.EmptyDeeds(b, bar)
			at := b
			for k, deed := range list {
				after, ok := impl.BarsDo(at, deed)
				check(t, ok && impl.BarsValid(after), "may not", b, bar, list, k)
				at = after
			}
			empty := impl.Bars{Sides: slices.Repeat([]int{3 - bar}, len(b.Sides)), Coupler: b.Coupler}
			check(t, sameBars(at, empty), b, bar, list, at)
			after, done := impl.BarsRun(b, list)
			check(t, sameBars(after, empty) && done == len(list), "run", b, bar, list, after, done)
			longest = max(longest, len(list))
		}
	}
	// With the coupler open each of six bays has four deeds.
	check(t, longest == 24, longest)
}

// The bays are emptied in order, each by the deeds that move it for the bars as they are then.
func TestP12EmptyDeedsAreTheMovesOfEachBay(t *testing.T) {
	for _, b := range validBars() {
		for _, bar := range []int{1, 2} {
			var moves, want []int
			at := b
			for bay, side := range b.Sides {
				if !isOn(side, bar) {
					continue
				}
				want = append(want, movesOf(at, bay, 3-bar)...)
				list := impl.MoveDeeds(at, bay, 3-bar)
				moves = append(moves, list...)
				at, _ = impl.BarsRun(at, list)
			}
			list := impl.EmptyDeeds(b, bar)
			check(t, slices.Equal(list, moves) && slices.Equal(list, want), b, bar, list, moves, want)
		}
	}
}

func TestP12EmptyDeedsByHand(t *testing.T) {
	for _, x := range []struct {
		from string
		bar  int
		list []int
	}{
		{"121", 1, []int{1, 5, 2, 0, 1, 13, 10, 0}},
		{"121", 2, []int{1, 7, 8, 0}},
		{"121+", 1, []int{5, 2, 13, 10}},
		{"121+", 2, []int{7, 8}},
		// Bays on both bars only leave the one.
		{"3+", 1, []int{2}},
		{"3+", 2, []int{4}},
		{"132+", 1, []int{5, 2, 6}},
		{"132+", 2, []int{8, 11, 12}},
		// A bar that is empty already.
		{"1", 2, nil},
		{"222+", 1, nil},
		{"222", 1, nil},
		{"111111", 2, nil},
		{"222221", 1, []int{1, 25, 22, 0}},
		{"333333+", 1, []int{2, 6, 10, 14, 18, 22}},
		{"111111", 1, []int{1, 5, 2, 0, 1, 9, 6, 0, 1, 13, 10, 0, 1, 17, 14, 0, 1, 21, 18, 0, 1, 25, 22, 0}},
	} {
		list := impl.EmptyDeeds(bars(x.from), x.bar)
		check(t, slices.Equal(list, x.list), x, list)
	}
}

func TestP12NothingIsEmptiedForOtherArguments(t *testing.T) {
	for told, b := range badBars() {
		for _, bar := range []int{-1, 0, 1, 2, 3} {
			list := impl.EmptyDeeds(b, bar)
			check(t, list == nil, told, bar, list)
		}
	}
	for _, b := range validBars() {
		for _, bar := range noBars() {
			list := impl.EmptyDeeds(b, bar)
			check(t, list == nil, b, bar, list)
		}
	}
}

func TestP92EveryBayIsOnABar(t *testing.T) {
	for _, b := range validBars() {
		check(t, impl.BarsValid(b), b)
		for bay := range b.Sides {
			for _, coupler := range []bool{false, true} {
				none := withSide(b, bay, 0)
				none.Coupler = coupler
				check(t, !impl.BarsValid(none), "on none", none)
			}
		}
	}
}

func TestP92ValidWithTheCouplerClosed(t *testing.T) {
	for _, b := range validBars() {
		both := slices.Contains(b.Sides, 3)
		b.Coupler = true
		check(t, impl.BarsValid(b), "closed", b)
		b.Coupler = false
		check(t, impl.BarsValid(b) == !both, "open", b)
	}
}

// All stations of up to seven bays, each on what may be or a little past it.
func TestP92BarsValid(t *testing.T) {
	valid := 0
	for bays, number := 0, 1; bays <= 7; bays, number = bays+1, number*6 {
		for rest := range number {
			b := impl.Bars{}
			for range bays {
				b.Sides = append(b.Sides, rest%6-1)
				rest /= 6
			}
			for _, coupler := range []bool{false, true} {
				b.Coupler = coupler
				ok := impl.BarsValid(b)
				check(t, ok == barsHold(b), b, ok)
				if ok {
					valid++
				}
			}
		}
	}
	check(t, valid == 126+1092 && valid == len(validBars()), valid)
}

func TestP92BarsThatAreNotValid(t *testing.T) {
	for told, b := range badBars() {
		check(t, !impl.BarsValid(b), told, b)
	}
}

func TestP93DeedsCanBeUndone(t *testing.T) {
	done := 0
	for _, b := range validBars() {
		for _, deed := range asksOf(b) {
			after, ok := impl.BarsDo(b, deed)
			if !ok {
				continue
			}
			done++
			check(t, impl.BarsValid(after), "not valid", b, deed, after)
			check(t, !sameBars(after, b), "nothing changed", b, deed)
			back, ok := impl.BarsDo(after, contrary(deed))
			check(t, ok && sameBars(back, b), b, deed, after, back, ok)
		}
	}
	check(t, done > 1000, "too few", done)
}

func TestP93WhatMayNotBeDoneChangesNothing(t *testing.T) {
	refused := 0
	for _, b := range validBars() {
		for _, deed := range asksOf(b) {
			after, ok := impl.BarsDo(b, deed)
			if !ok {
				refused++
				check(t, sameBars(after, b), b, deed, after)
			}
		}
	}
	check(t, refused > 10000, "too few", refused)
}

// Exactly the part of the deed is moved, and exactly when it may be.
func TestP93BarsDo(t *testing.T) {
	for _, b := range validBars() {
		for _, deed := range asksOf(b) {
			after, ok := impl.BarsDo(b, deed)
			want, may := barsAfter(b, deed)
			check(t, ok == may && sameBars(after, want), b, deed, after, ok, want, may)
		}
	}
}

func TestP93BarsDoByHand(t *testing.T) {
	for _, x := range []struct {
		from string
		deed int
		to   string
		ok   bool
	}{
		{"1", 0, "1", false},
		{"1", 1, "1+", true},
		{"1+", 0, "1", true},
		{"1+", 1, "1+", false},
		{"12", 0, "12", false},
		{"3+", 0, "3+", false},
		{"123+", 0, "123+", false},
		{"122+", 0, "122", true},
		// The first bay, whose deeds are 2 to 5.
		{"1+", 2, "1+", false},
		{"1+", 3, "1+", false},
		{"1+", 4, "1+", false},
		{"1+", 5, "3+", true},
		{"2+", 2, "2+", false},
		{"2+", 3, "3+", true},
		{"2+", 4, "2+", false},
		{"2+", 5, "2+", false},
		{"3+", 2, "2+", true},
		{"3+", 3, "3+", false},
		{"3+", 4, "1+", true},
		{"3+", 5, "3+", false},
		// With the coupler open no isolator of any bay can be moved.
		{"1", 2, "1", false},
		{"1", 5, "1", false},
		{"2", 3, "2", false},
		{"2", 4, "2", false},
		{"121", 5, "121", false},
		{"121", 7, "121", false},
		// Other bays.
		{"111+", 9, "131+", true},
		{"222+", 11, "223+", true},
		{"333333+", 22, "333332+", true},
		{"333333+", 24, "333331+", true},
		{"111111+", 25, "111113+", true},
		// Bays that are not there.
		{"1+", 6, "1+", false},
		{"1+", 7, "1+", false},
		{"1+", 9, "1+", false},
		{"33+", 10, "33+", false},
		{"33+", 12, "33+", false},
		{"333333+", 26, "333333+", false},
		{"111111+", 29, "111111+", false},
		{"1+", -1, "1+", false},
		{"1", -1, "1", false},
	} {
		after, ok := impl.BarsDo(bars(x.from), x.deed)
		check(t, sameBars(after, bars(x.to)) && ok == x.ok, x, after, ok)
	}
}

func TestP93NumbersThatAreNoDeeds(t *testing.T) {
	for _, b := range validBars() {
		for _, deed := range noDeedsOf(b) {
			after, ok := impl.BarsDo(b, deed)
			check(t, !ok && sameBars(after, b), "do", b, deed, after, ok)
		}
		after, done := impl.BarsRun(b, noDeedsOf(b))
		check(t, done == 0 && sameBars(after, b), "run", b, after, done)
	}
}

func TestP93NothingIsDoneOnBarsThatAreNotValid(t *testing.T) {
	for told, b := range badBars() {
		for _, deed := range asksOf(bars("111")) {
			after, ok := impl.BarsDo(b, deed)
			check(t, after.Sides == nil && !after.Coupler && !ok, told, deed, after, ok)
		}
	}
}

func TestP94ABayIsMovedWithoutAGap(t *testing.T) {
	moves := 0
	for _, b := range validBars() {
		for bay := range b.Sides {
			for _, bar := range []int{1, 2} {
				list := impl.MoveDeeds(b, bay, bar)
				at := b
				for k, deed := range list {
					after, ok := impl.BarsDo(at, deed)
					check(t, ok, "may not", b, bay, bar, list, k)
					at = after
				}
				check(t, sameBars(at, withSide(b, bay, bar)), b, bay, bar, list, at)
				after, done := impl.BarsRun(b, list)
				check(t, sameBars(after, at) && done == len(list), "run", b, bay, bar, list, after, done)
				if len(list) > 0 {
					moves++
				}
			}
		}
	}
	check(t, moves > 1000, "too few", moves)
}

func TestP94MoveDeeds(t *testing.T) {
	for _, b := range validBars() {
		for bay := range b.Sides {
			for _, bar := range []int{1, 2} {
				list, want := impl.MoveDeeds(b, bay, bar), movesOf(b, bay, bar)
				check(t, slices.Equal(list, want), b, bay, bar, list, want)
			}
		}
	}
}

func TestP94MoveDeedsByHand(t *testing.T) {
	for _, x := range []struct {
		from string
		bay  int
		bar  int
		list []int
	}{
		// The coupler is open: it is closed, and opened again.
		{"1", 0, 2, []int{1, 5, 2, 0}},
		{"2", 0, 1, []int{1, 3, 4, 0}},
		{"121", 2, 2, []int{1, 13, 10, 0}},
		{"121", 1, 1, []int{1, 7, 8, 0}},
		{"111112", 5, 1, []int{1, 23, 24, 0}},
		// The coupler is closed, and stays so.
		{"1+", 0, 2, []int{5, 2}},
		{"2+", 0, 1, []int{3, 4}},
		{"121+", 1, 1, []int{7, 8}},
		{"222221+", 5, 2, []int{25, 22}},
		// A bay that is on both only leaves the other bar.
		{"3+", 0, 1, []int{4}},
		{"3+", 0, 2, []int{2}},
		{"333+", 1, 1, []int{8}},
		{"333+", 1, 2, []int{6}},
		{"131+", 0, 2, []int{5, 2}},
		// A bay that is there already.
		{"1", 0, 1, nil},
		{"2", 0, 2, nil},
		{"121", 1, 2, nil},
		{"323+", 1, 2, nil},
		{"1+", 0, 1, nil},
	} {
		list := impl.MoveDeeds(bars(x.from), x.bay, x.bar)
		check(t, slices.Equal(list, x.list), x, list)
	}
}

// noBars are numbers that are no bars.
func noBars() []int {
	return append([]int{-3, -2, -1, 0, 3, 4, 5, 6, 7, 257, 258, 1<<32 + 1, 1<<32 + 2}, farNumbers...)
}

func TestP94NothingIsMovedForOtherArguments(t *testing.T) {
	for told, b := range badBars() {
		for bay := range 3 {
			for _, bar := range []int{-1, 0, 1, 2, 3} {
				list := impl.MoveDeeds(b, bay, bar)
				check(t, list == nil, told, bay, bar, list)
			}
		}
	}
	for _, b := range validBars() {
		bays := len(b.Sides)
		for _, bar := range []int{1, 2} {
			for _, bay := range append([]int{-1, -2, -bays, bays, bays + 1, impl.MaxBays, 64, 256, 1 << 32}, farNumbers...) {
				list := impl.MoveDeeds(b, bay, bar)
				check(t, list == nil, "no such bay", b, bay, bar, list)
			}
		}
		for bay := range b.Sides {
			for _, bar := range noBars() {
				list := impl.MoveDeeds(b, bay, bar)
				check(t, list == nil, "no such bar", b, bay, bar, list)
			}
		}
	}
}

// Results share no memory with an argument or with each other: what is written into one, also behind its end, is not seen in them.
func TestBarsAreNewEachTime(t *testing.T) {
	for _, b := range validBars() {
		memory := append(slices.Clone(b.Sides), 9, 9, 9)
		given := impl.Bars{Sides: memory[:len(b.Sides)], Coupler: b.Coupler}
		for _, deeds := range [][]int{nil, {-1}, {0}, {1}, {3}, {5}, {2}, {4}, {1, 3, 5, 2, 0}} {
			first, done := impl.BarsRun(given, deeds)
			want := copyOfBars(first)
			spoilNumbers(first.Sides)
			again, same := impl.BarsRun(given, deeds)
			check(t, sameBars(again, want) && same == done, "run", b, deeds, want, again)
			for _, deed := range deeds {
				first, _ := impl.BarsDo(given, deed)
				want := copyOfBars(first)
				spoilNumbers(first.Sides)
				again, _ := impl.BarsDo(given, deed)
				check(t, sameBars(again, want), "do", b, deed, want, again)
			}
		}
		for _, bar := range []int{1, 2} {
			list := impl.EmptyDeeds(given, bar)
			want := slices.Clone(list)
			spoilNumbers(list)
			check(t, slices.Equal(impl.EmptyDeeds(given, bar), want), "empty", b, bar, want)
			list = impl.MoveDeeds(given, 0, bar)
			want = slices.Clone(list)
			spoilNumbers(list)
			check(t, slices.Equal(impl.MoveDeeds(given, 0, bar), want), "move", b, bar, want)
		}
		check(t, slices.Equal(memory, append(slices.Clone(b.Sides), 9, 9, 9)), "bars were written to", b, memory)
	}
}

func TestBarsWriteToNoDeeds(t *testing.T) {
	memory := []int{1, 5, 2, 2, -1, 0, 1, 3}
	before := slices.Clone(memory)
	for range 2 {
		after, done := impl.BarsRun(bars("1"), memory[:6])
		check(t, sameBars(after, bars("2")) && done == 4, after, done)
		after, done = impl.BarsRun(bars("1"), memory)
		check(t, sameBars(after, bars("3+")) && done == 6, after, done)
	}
	check(t, slices.Equal(memory, before), "deeds were written to", memory)
}
