package tests

import (
	"slices"

	"loop.example/powercontrol/impl"
)

// flowIn is the flow of a line of a radial network, as the document defines it: what all buses want that are joined to their feed, but not without the line.
func flowIn(n impl.Net, on []bool, buses []impl.Bus, line int) int {
	left := joined(n, without(on, line))
	flow := 0
	for bus := range buses {
		if feed := feedFor(n, on, buses, bus); feed >= 0 && !left[feed][bus] {
			flow += buses[bus].Load
		}
	}
	return flow
}

// flowsIn are the flows of all lines of a radial network.
func flowsIn(n impl.Net, on []bool, buses []impl.Bus) []int {
	list := make([]int, len(on))
	for k := range on {
		list[k] = flowIn(n, on, buses, k)
	}
	return list
}

// givenIn is for each bus of a radial network what it gives: what its island wants if it is a feed, and 0 for another bus.
func givenIn(n impl.Net, on []bool, buses []impl.Bus) []int {
	sums := islandTotals(n, on, buses)
	list := make([]int, n.Buses)
	for bus := range list {
		if buses[bus].Feed > 0 {
			list[bus] = sums[bus].Load
		}
	}
	return list
}

// tooMuch are the lines of a radial network that carry more than they can.
func tooMuch(n impl.Net, on []bool, buses []impl.Bus) []int {
	var list []int
	for k, flow := range flowsIn(n, on, buses) {
		if flow > n.Lines[k].Most {
			list = append(list, k)
		}
	}
	return list
}

// isGood tells whether a network is good, as the document defines it.
func isGood(n impl.Net, on []bool, buses []impl.Bus) bool {
	if !isRadial(n, on, buses) || len(tooMuch(n, on, buses)) > 0 {
		return false
	}
	for bus, given := range givenIn(n, on, buses) {
		if given > buses[bus].Feed {
			return false
		}
	}
	return true
}

// tight is a radial network and its buses in which every line can just carry what it does, and every feed just give what it does; where that is nothing they can do 1, the least there is.
func tight(n impl.Net, on []bool, buses []impl.Bus) (impl.Net, []impl.Bus) {
	flows, given := flowsIn(n, on, buses), givenIn(n, on, buses)
	n.Lines, buses = slices.Clone(n.Lines), slices.Clone(buses)
	for k := range n.Lines {
		n.Lines[k].Most = max(1, flows[k])
	}
	for bus := range buses {
		if buses[bus].Feed > 0 {
			buses[bus].Feed = max(1, given[bus])
		}
	}
	return n, buses
}

// eachTight calls a function for many radial networks that are tight.
func eachTight(do func(n impl.Net, on []bool, buses []impl.Bus)) {
	eachRadial(func(n impl.Net, on []bool, buses []impl.Bus) {
		n, buses = tight(n, on, buses)
		do(n, on, buses)
	})
}

// eachFlow calls a function for many radial networks, of which some carry more than they can: those of eachRadial, and tight ones in which the lines or the feeds, in turn, can do 1 less.
func eachFlow(do func(n impl.Net, on []bool, buses []impl.Bus)) {
	eachRadial(do)
	turn := 0
	eachTight(func(n impl.Net, on []bool, buses []impl.Bus) {
		turn++
		for k := range n.Lines {
			if (turn+k)%3 == 0 {
				n.Lines[k].Most = max(1, n.Lines[k].Most-1)
			}
		}
		for bus := range buses {
			if turn%4 == 0 && buses[bus].Feed > 1 {
				buses[bus].Feed--
			}
		}
		do(n, on, buses)
	})
}
