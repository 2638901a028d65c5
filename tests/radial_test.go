package tests

import (
	"math/rand"
	"slices"
	"testing"

	"loop.example/powercontrol/impl"
)

// forest is a state in which only those lines of a state are on that close no cycle.
func forest(n impl.Net, on []bool) []bool {
	taken := make([]bool, len(on))
	for _, k := range linesThatAreOn(on) {
		l := n.Lines[k]
		taken[k] = !joined(n, taken)[l.A][l.B]
	}
	return taken
}

// oneFeed are buses by chance of which in each island of a state one or none is a feed, the same ones for the same seed.
func oneFeed(seed int64, n impl.Net, on []bool) []impl.Bus {
	r := rand.New(rand.NewSource(seed))
	buses := someBuses(seed, n.Buses)
	for bus := range buses {
		buses[bus].Feed = 0
	}
	ways := joined(n, on)
	for bus := range buses {
		island := islandFrom(ways, bus)
		if island[0] == bus && r.Intn(5) > 0 {
			buses[island[r.Intn(len(island))]].Feed = 1 + r.Intn(3)*499
		}
	}
	return buses
}

// eachRadial calls a function for many radial networks with states and buses: for special shapes with all states without a cycle.
func eachRadial(do func(n impl.Net, on []bool, buses []impl.Bus)) {
	for k, n := range []impl.Net{chainNet(), crossedNet(), starNet(), ringNet(3, 6), parallelNet(2, 5), someNet(1), someNet(7), fullNet()} {
		for number, on := range allStates(len(n.Lines)) {
			if alone := forest(n, on); slices.Equal(alone, on) {
				do(n, on, oneFeed(int64(1000*k+number), n, on))
			}
		}
	}
	for k, n := range goodNets() {
		for number, on := range netStates(n) {
			alone := forest(n, on)
			do(n, alone, make([]impl.Bus, n.Buses))
			do(n, alone, oneFeed(int64(10*k+number), n, alone))
			do(n, alone, oneFeed(int64(-10*k-number), n, alone))
		}
	}
	// Each bus in turn is the only feed.
	for _, n := range []impl.Net{chainNet(), crossedNet(), starNet()} {
		on := slices.Repeat([]bool{true}, len(n.Lines))
		for feed := range n.Buses {
			buses := slices.Repeat([]impl.Bus{{Load: 2}}, n.Buses)
			buses[feed].Feed = 1
			do(n, on, buses)
		}
	}
}

// isRadial tells whether a network is radial, as the document defines it: no line is on a cycle, and no two feeds are joined.
func isRadial(n impl.Net, on []bool, buses []impl.Bus) bool {
	cycles, _ := cyclesAndBridges(n, on)
	ways := joined(n, on)
	for a := range buses {
		for b := range a {
			if buses[a].Feed > 0 && buses[b].Feed > 0 && ways[a][b] {
				return false
			}
		}
	}
	return len(cycles) == 0
}

// feedFor is the feed that is joined to a bus; -1 if there is none.
func feedFor(n impl.Net, on []bool, buses []impl.Bus, bus int) int {
	for _, other := range islandFrom(joined(n, on), bus) {
		if buses[other].Feed > 0 {
			return other
		}
	}
	return -1
}

// wayBetween are the lines of the way from a bus to another one in a state without a cycle: those without which the two are not joined, in their order from the first bus; none if there is no first bus.
func wayBetween(n impl.Net, on []bool, from int, to int) []int {
	if from < 0 {
		return nil
	}
	var way []int
	for _, k := range linesThatAreOn(on) {
		if !joined(n, without(on, k))[from][to] {
			way = append(way, k)
		}
	}
	// The farther a line of the way is from the first bus, the more buses are joined to that bus without this line.
	near := func(k int) int { return len(islandFrom(joined(n, without(on, k)), from)) }
	slices.SortFunc(way, func(a int, b int) int { return near(a) - near(b) })
	return way
}

// notRadial calls a function for networks, states and buses that are valid but not radial; to many of them this is only one line or one feed too many.
func notRadial(t *testing.T, do func(n impl.Net, on []bool, buses []impl.Bus)) {
	t.Helper()
	many := 0
	seen := func(n impl.Net, on []bool, buses []impl.Bus) {
		if !isRadial(n, on, buses) {
			many++
			do(n, on, buses)
		}
	}
	eachLife(seen)
	eachRadial(func(n impl.Net, on []bool, buses []impl.Bus) {
		for k := range on {
			with := slices.Clone(on)
			with[k] = true
			seen(n, with, buses)
		}
		for bus := range buses {
			more := slices.Clone(buses)
			more[bus].Feed = 1
			seen(n, on, more)
		}
	})
	check(t, many > 1000, "too few", many)
}
