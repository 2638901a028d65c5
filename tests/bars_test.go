package tests

import (
	"math"
	"math/rand"
	"slices"
	"strconv"

	"loop.example/powercontrol/impl"
)

// bars are bars whose bays are on what the digits of a text tell; a + behind them closes the coupler.
func bars(s string) impl.Bars {
	b := impl.Bars{}
	for _, letter := range s {
		if letter == '+' {
			b.Coupler = true
		} else {
			b.Sides = append(b.Sides, int(letter-'0'))
		}
	}
	return b
}

func copyOfBars(b impl.Bars) impl.Bars {
	return impl.Bars{Sides: slices.Clone(b.Sides), Coupler: b.Coupler}
}

func sameBars(a impl.Bars, b impl.Bars) bool {
	return slices.Equal(a.Sides, b.Sides) && a.Coupler == b.Coupler
}

// withSide is bars with a bay on something else.
func withSide(b impl.Bars, bay int, side int) impl.Bars {
	b = copyOfBars(b)
	b.Sides[bay] = side
	return b
}

// validBars are all bars that are valid: with the coupler open each bay is on one of two, and with it closed on one of them or both.
func validBars() []impl.Bars {
	var list []impl.Bars
	for _, coupler := range []bool{false, true} {
		most := 2
		if coupler {
			most = 3
		}
		some := []impl.Bars{{Coupler: coupler}}
		for range impl.MaxBays {
			var longer []impl.Bars
			for _, b := range some {
				for side := 1; side <= most; side++ {
					longer = append(longer, impl.Bars{Sides: append(slices.Clone(b.Sides), side), Coupler: coupler})
				}
			}
			list, some = append(list, longer...), longer
		}
	}
	return list
}

// badBars are bars that are not valid, each for one reason.
func badBars() map[string]impl.Bars {
	many := slices.Repeat([]int{1}, 64)
	list := map[string]impl.Bars{
		"no bays":                       {},
		"no bays, empty":                {Sides: []int{}},
		"no bays, the coupler closed":   {Coupler: true},
		"seven bays":                    bars("1212121"),
		"seven bays, coupler closed":    bars("1232121+"),
		"64 bays":                       {Sides: many},
		"64 bays, the coupler closed":   {Sides: many, Coupler: true},
		"all on both, the coupler open": bars("333333"),
	}
	for _, b := range []impl.Bars{bars("1"), bars("2+"), bars("121"), bars("132+"), bars("212121"), bars("312333+")} {
		for bay := range b.Sides {
			for _, side := range append([]int{-3, -2, -1, 0, 4, 5, 6, 7, 8, 255, 257, 1<<32 + 1, 1<<32 + 2, 1 << 62, math.MinInt + 1}, farNumbers...) {
				list["a bay on "+strconv.Itoa(side)+" at "+text(b.Sides...)+", "+strconv.Itoa(bay)] = withSide(b, bay, side)
			}
			if !b.Coupler {
				list["on both, the coupler open, at "+text(b.Sides...)+", "+strconv.Itoa(bay)] = withSide(b, bay, 3)
			}
		}
	}
	return list
}

// barsHold reports whether bars are valid, as the document has it.
func barsHold(b impl.Bars) bool {
	for _, side := range b.Sides {
		if side != 1 && side != 2 && (side != 3 || !b.Coupler) {
			return false
		}
	}
	return 1 <= len(b.Sides) && len(b.Sides) <= 6
}

// isOn reports whether a side has a bar.
func isOn(side int, bar int) bool {
	return side == bar || side == 3
}

// moveAt is the deed that opens the isolator of a bay to a bar, or closes it.
func moveAt(bay int, bar int, closes bool) int {
	deed := 2 + 4*bay + 2*(bar-1)
	if closes {
		return deed + 1
	}
	return deed
}

// barsAfter are valid bars after a deed and true, or as they were and false if it may not be done, as the document has it.
func barsAfter(b impl.Bars, deed int) (impl.Bars, bool) {
	after := copyOfBars(b)
	if deed == 0 || deed == 1 {
		after.Coupler = deed == 1
	}
	for bay, side := range b.Sides {
		for _, bar := range []int{1, 2} {
			switch {
			case deed == moveAt(bay, bar, false) && isOn(side, bar):
				after.Sides[bay] = side - bar
			case deed == moveAt(bay, bar, true) && !isOn(side, bar):
				after.Sides[bay] = side + bar
			}
		}
	}
	if sameBars(after, b) || !barsHold(after) {
		return b, false
	}
	return after, true
}

// movesOf are the deeds that put a bay of valid bars on one bar alone, as the document has it.
func movesOf(b impl.Bars, bay int, bar int) []int {
	if b.Sides[bay] == bar {
		return nil
	}
	list := []int{moveAt(bay, 3-bar, false)}
	if b.Sides[bay] == 3-bar {
		list = slices.Insert(list, 0, moveAt(bay, bar, true))
	}
	if !b.Coupler {
		list = slices.Concat([]int{1}, list, []int{0})
	}
	return list
}

// asksOf are all deeds of bars, and numbers around and far from them that are none; some of these would be, if a part of their bits were all that is looked at.
func asksOf(b impl.Bars) []int {
	var list []int
	for deed := -12; deed <= 2+4*len(b.Sides)+12; deed++ {
		list = append(list, deed)
	}
	for deed := range 2 + 4*len(b.Sides) {
		list = append(list, deed+64, deed+256, deed+1<<32, deed+1<<62, deed+math.MinInt)
	}
	return append(list, farNumbers...)
}

// noDeedsOf are those of them that are no deeds.
func noDeedsOf(b impl.Bars) []int {
	return slices.DeleteFunc(asksOf(b), func(ask int) bool { return ask >= 0 && ask < 2+4*len(b.Sides) })
}

// eachBarsRun calls a function for many lists of deeds and valid bars: all short lists, also of numbers that are no deeds, for stations of one or two bays, and lists by chance for all.
func eachBarsRun(do func(b impl.Bars, deeds []int)) {
	for _, b := range validBars() {
		do(b, nil)
		do(b, asksOf(b))
		for seed := range int64(6) {
			do(b, someAsks(seed, len(b.Sides)))
		}
		if len(b.Sides) > 2 {
			continue
		}
		asks := 2 + 4*len(b.Sides) + 2
		for number := range asks * asks * asks {
			do(b, []int{number%asks - 1, number/asks%asks - 1, number/asks/asks - 1})
		}
	}
}

// someAsks are deeds by chance, the same ones for the same seed, many of them of the coupler, so that most others may be done at times; a few are none.
func someAsks(seed int64, bays int) []int {
	r := rand.New(rand.NewSource(seed))
	list := []int{}
	for range r.Intn(60) {
		if r.Intn(4) == 0 {
			list = append(list, r.Intn(2))
		} else {
			list = append(list, r.Intn(4*bays+4)-1)
		}
	}
	return list
}
