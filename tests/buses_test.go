package tests

import (
	"math/rand"
	"slices"
	"testing"

	"loop.example/powercontrol/impl"
)

// someBuses are buses by chance, the same ones for the same seed; many give nothing, and many want nothing.
func someBuses(seed int64, buses int) []impl.Bus {
	r := rand.New(rand.NewSource(seed))
	list := make([]impl.Bus, buses)
	for bus := range list {
		if r.Intn(2) == 0 {
			list[bus].Feed = r.Intn(20)
		}
		if r.Intn(3) > 0 {
			list[bus].Load = r.Intn(12)
		}
	}
	return list
}

// netBuses are buses for a network: without any feed or load, all at the greatest, with one feed at its last bus, with loads alone, and others by chance.
func netBuses(n impl.Net) [][]impl.Bus {
	last := slices.Repeat([]impl.Bus{{Load: 1}}, n.Buses)
	last[n.Buses-1] = impl.Bus{Feed: n.Buses - 1}
	list := [][]impl.Bus{
		make([]impl.Bus, n.Buses),
		slices.Repeat([]impl.Bus{{Feed: impl.MaxPower, Load: impl.MaxPower}}, n.Buses),
		slices.Repeat([]impl.Bus{{Load: 3}}, n.Buses),
		last,
	}
	for seed := range int64(4) {
		list = append(list, someBuses(seed, n.Buses))
	}
	return list
}

// badBuses are buses that are not valid for a valid network, by names that tell what is wrong with them.
func badBuses(n impl.Net) map[string][]impl.Bus {
	bad := map[string][]impl.Bus{
		"none":      nil,
		"empty":     {},
		"one less":  make([]impl.Bus, n.Buses-1),
		"one more":  make([]impl.Bus, n.Buses+1),
		"many more": make([]impl.Bus, 100),
	}
	for at := range n.Buses {
		for _, power := range append([]int{-1, impl.MaxPower + 1}, farNumbers...) {
			feed, load := someBuses(1, n.Buses), someBuses(1, n.Buses)
			feed[at].Feed, load[at].Load = power, power
			bad["Feed "+text(at, power)] = feed
			bad["Load "+text(at, power)] = load
		}
	}
	return bad
}

// eachLife calls a function for many networks with states and buses: for some special shapes with all their states.
func eachLife(do func(n impl.Net, on []bool, buses []impl.Bus)) {
	for k, n := range []impl.Net{chainNet(), crossedNet(), starNet(), ringNet(3, 6), parallelNet(2, 5), someNet(1), someNet(7)} {
		for number, on := range allStates(len(n.Lines)) {
			do(n, on, someBuses(int64(1000*k+number), n.Buses))
		}
	}
	for _, n := range goodNets() {
		for _, on := range netStates(n) {
			for _, buses := range netBuses(n) {
				do(n, on, buses)
			}
		}
	}
}

// eachWrongLife calls a function for networks with states and buses of which one or the other is not valid.
func eachWrongLife(do func(n impl.Net, on []bool, buses []impl.Bus, told string)) {
	eachWrong(func(n impl.Net, on []bool, told string) {
		for _, buses := range []int{0, 1, 2, max(0, min(n.Buses, impl.MaxBuses+1))} {
			do(n, on, make([]impl.Bus, buses), told)
			do(n, on, someBuses(3, buses), told)
		}
	})
	for k, n := range goodNets() {
		if k > 40 {
			break
		}
		for told, buses := range badBuses(n) {
			for _, on := range netStates(n)[:3] {
				do(n, on, buses, told)
			}
		}
	}
}

// total is what all of the buses give at most, and what all of them want.
func total(buses []impl.Bus) impl.Bus {
	var sum impl.Bus
	for _, b := range buses {
		sum.Feed += b.Feed
		sum.Load += b.Load
	}
	return sum
}

// readNet is the network of a text of a test.
func readNet(t *testing.T, s string) impl.Net {
	t.Helper()
	n, ok := impl.ReadNet(s)
	check(t, ok, "no network", s)
	return n
}
