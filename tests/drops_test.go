package tests

import (
	"math/rand"
	"slices"

	"loop.example/powercontrol/impl"
)

// someOhms are resistances by chance, the same ones for the same seed; many are 0, and with some seeds all are 0, or all the greatest.
func someOhms(seed int64, lines int) []int {
	ohms := make([]int, lines)
	if seed%6 == 0 {
		return ohms
	}
	r := rand.New(rand.NewSource(seed))
	for k := range ohms {
		if seed%6 == 1 {
			ohms[k] = impl.MaxOhms
		} else if r.Intn(3) > 0 {
			ohms[k] = r.Intn(impl.MaxOhms + 1)
		}
	}
	return ohms
}

// badOhms are resistances that are not valid for so many lines, by names that tell what is wrong with them.
func badOhms(lines int) map[string][]int {
	bad := map[string][]int{
		"one more":     make([]int, lines+1),
		"two more":     make([]int, lines+2),
		"many more":    make([]int, 100),
		"one more bad": append(make([]int, lines), -1),
	}
	if lines > 0 {
		bad["none"] = nil
		bad["empty"] = []int{}
		bad["one less"] = make([]int, lines-1)
	}
	for at := range lines {
		for _, ohm := range append([]int{-1, impl.MaxOhms + 1}, farNumbers...) {
			ohms := someOhms(2, lines)
			ohms[at] = ohm
			bad["ohms "+text(at, ohm)] = ohms
		}
	}
	return bad
}

// dropsIn is for each bus of a radial network by how much the voltage has dropped there, as the document defines it; -1 where there is no feed.
func dropsIn(n impl.Net, on []bool, buses []impl.Bus, ohms []int) []int {
	flows := flowsIn(n, on, buses)
	drops := make([]int, n.Buses)
	for bus := range drops {
		feed := feedFor(n, on, buses, bus)
		if feed < 0 {
			drops[bus] = -1
		}
		for _, k := range wayBetween(n, on, feed, bus) {
			drops[bus] += flows[k] * ohms[k]
		}
	}
	return drops
}

// roomIn is how much more may be wanted at a bus that is alive where the bounds hold: what is left of its feed, of the lines on the way to it and of every bound, of which each bus is nearer to its own by what all lines resist that are on both ways.
func roomIn(n impl.Net, on []bool, buses []impl.Bus, ohms []int, most int, bus int) int {
	feed := feedFor(n, on, buses, bus)
	room := min(impl.MaxPower-buses[bus].Load, buses[feed].Feed-givenIn(n, on, buses)[feed])
	flows, drops := flowsIn(n, on, buses), dropsIn(n, on, buses, ohms)
	way := wayBetween(n, on, feed, bus)
	for _, k := range way {
		room = min(room, n.Lines[k].Most-flows[k])
	}
	for _, other := range islandFrom(joined(n, on), bus) {
		both := 0
		for _, k := range wayBetween(n, on, feed, other) {
			if slices.Contains(way, k) {
				both += ohms[k]
			}
		}
		if both > 0 {
			room = min(room, (most-drops[other])/both)
		}
	}
	return room
}

// eachDrop calls a function for many radial networks with resistances, of which some carry more than they can.
func eachDrop(do func(n impl.Net, on []bool, buses []impl.Bus, ohms []int)) {
	turn := int64(0)
	eachFlow(func(n impl.Net, on []bool, buses []impl.Bus) {
		turn++
		do(n, on, buses, someOhms(turn, len(n.Lines)))
	})
}

// eachEased calls a function for many good networks with resistances and bounds that hold: tight ones in which each line, each feed and the bound are eased by chance, many of them not at all.
func eachEased(do func(n impl.Net, on []bool, buses []impl.Bus, ohms []int, most int)) {
	r := rand.New(rand.NewSource(8))
	ease := func(most int) int { return max(0, r.Intn(2*most)-most/2) }
	eachTight(func(n impl.Net, on []bool, buses []impl.Bus) {
		for k := range n.Lines {
			n.Lines[k].Most += ease(40)
		}
		for bus := range buses {
			if buses[bus].Feed > 0 {
				buses[bus].Feed += ease(60)
			}
		}
		ohms := someOhms(r.Int63(), len(n.Lines))
		do(n, on, buses, ohms, slices.Max(dropsIn(n, on, buses, ohms))+ease(200))
	})
}
