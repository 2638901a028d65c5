package tests

import (
	"math"
	"slices"
	"testing"

	"loop.example/powercontrol/impl"
)

// grid is a network with buses, lines that are off and resistances, and what drops in it: the drop at each bus, the worst bus, and whether it is good.
type grid struct {
	net   string
	off   []int
	buses []impl.Bus
	ohms  []int
	drops []int
	worst int
	good  bool
}

// grids are radial networks worked out by hand.
func grids() map[string]grid {
	want := impl.Bus{Load: impl.MaxPower}
	chain := "8 0-1:999 1-2:999 2-3:999 3-4:999 4-5:999 5-6:999 6-7:999"
	nines := slices.Repeat([]int{impl.MaxOhms}, impl.MaxBuses-1)
	return map[string]grid{
		"one bus that is a feed": {net: "1", buses: []impl.Bus{{Feed: 4, Load: 4}}, drops: []int{0}, good: true},
		"a feed with too little": {net: "1", buses: []impl.Bus{{Feed: 3, Load: 4}}, drops: []int{0}},
		"one bus that is dead":   {net: "1", buses: []impl.Bus{{Load: 4}}, drops: []int{-1}, worst: -1, good: true},
		"the load of a feed drops nowhere": {
			net: "2 0-1:9", buses: []impl.Bus{{Feed: 20, Load: 11}, {Load: 4}}, ohms: []int{3}, drops: []int{0, 12}, worst: 1, good: true,
		},
		"all dead": {
			net: "3 0-1:5 1-2:5", buses: []impl.Bus{{Load: 9}, {Load: 9}, {Load: 9}}, ohms: []int{9, 9}, drops: []int{-1, -1, -1}, worst: -1, good: true,
		},
		"a feed alone": {
			net: "2 0-1:5", off: []int{0}, buses: []impl.Bus{{Feed: 9, Load: 7}, {Load: 6}}, ohms: []int{9}, drops: []int{0, -1}, good: true,
		},
		"nothing is wanted": {
			net: "3 0-1:5 1-2:5", buses: []impl.Bus{{}, {}, {Feed: 1}}, ohms: []int{9, 9}, drops: []int{0, 0, 0}, good: true,
		},
		"nothing resists": {
			net: "3 0-1:5 1-2:9", buses: []impl.Bus{{Load: 5}, {Load: 4}, {Feed: 9}}, ohms: []int{0, 0}, drops: []int{0, 0, 0}, good: true,
		},
		"nothing resists, and the first bus is dead": {
			net: "3 0-1:5 1-2:5", off: []int{0}, buses: []impl.Bus{{Load: 5}, {Load: 4}, {Feed: 4}}, ohms: []int{9, 0}, drops: []int{-1, 0, 0}, worst: 1, good: true,
		},
		"a line that resists nothing": {
			net: "4 0-1:30 1-2:20 1-3:10", buses: []impl.Bus{{Feed: 20}, {Load: 3}, {Load: 4}, {Load: 5}}, ohms: []int{2, 1, 0},
			drops: []int{0, 24, 28, 24}, worst: 2, good: true,
		},
		"a chain told from its end": {
			net: "4 2-3:3 2-1:5 0-1:9", buses: []impl.Bus{{Feed: 20, Load: 8}, {Load: 4}, {Load: 2}, {Load: 3}}, ohms: []int{7, 3, 2},
			drops: []int{0, 18, 33, 54}, worst: 3, good: true,
		},
		"a feed in the middle": {
			net: "5 0-1:9 1-2:9 2-3:12 3-4:8", buses: []impl.Bus{{Load: 1}, {Load: 2}, {Feed: 31, Load: 16}, {Load: 4}, {Load: 8}}, ohms: []int{5, 4, 1, 0},
			drops: []int{17, 12, 0, 12, 12}, good: true,
		},
		"the first of three that are as bad": {
			net: "4 3-0:9 3-1:9 3-2:9", buses: []impl.Bus{{Load: 2}, {Load: 6}, {Load: 3}, {Feed: 11}}, ohms: []int{9, 3, 6},
			drops: []int{18, 18, 18, 0}, good: true,
		},
		"the first of two that are as bad": {
			net: "5 0-1:9 0-2:9 2-3:9 2-4:9", buses: []impl.Bus{{Feed: 9}, {Load: 3}, {}, {Load: 4}, {Load: 2}}, ohms: []int{2, 2, 3, 6},
			drops: []int{0, 6, 12, 24, 24}, worst: 3, good: true,
		},
		"two islands, of which one has too little": {
			net: "5 0-1:9 3-4:9 1-2:9 2-3:9", off: []int{3}, buses: []impl.Bus{{Feed: 5}, {Load: 2}, {Load: 3}, {Load: 4}, {Feed: 4, Load: 1}}, ohms: []int{1, 3, 2, 9},
			drops: []int{0, 5, 11, 12, 0}, worst: 3,
		},
		"the last of three parallel lines": {
			net: "3 0-1:1 1-0:1 0-1:5 2-1:8", off: []int{0, 1}, buses: []impl.Bus{{Load: 5}, {Load: 3}, {Feed: 8}}, ohms: []int{9, 8, 7, 6},
			drops: []int{83, 48, 0}, good: true,
		},
		"a line that is off, with much behind it": {
			net: "4 0-1:2 1-2:1 2-3:1", off: []int{1}, buses: []impl.Bus{{Feed: 3, Load: 1}, {Load: 2}, {Load: 70}, {Load: 80}}, ohms: []int{4, 9, 9},
			drops: []int{0, 8, -1, -1}, worst: 1, good: true,
		},
		"a line that carries too much": {
			net: "2 0-1:3", buses: []impl.Bus{{Feed: 20}, {Load: 4}}, ohms: []int{0}, drops: []int{0, 0},
		},
		"the greatest loads": {
			net: chain, buses: append([]impl.Bus{{Feed: impl.MaxPower, Load: impl.MaxPower}}, slices.Repeat([]impl.Bus{want}, 7)...), ohms: nines,
			drops: []int{0, 62937, 116883, 161838, 197802, 224775, 242757, 251748}, worst: 7,
		},
		"the greatest drops of a good network": {
			net: chain, buses: []impl.Bus{{Feed: impl.MaxPower}, {}, {}, {}, {}, {}, {}, want}, ohms: nines,
			drops: []int{0, 8991, 17982, 26973, 35964, 44955, 53946, 62937}, worst: 7, good: true,
		},
	}
}

// eachGrid calls a function for the networks and states of the grids.
func eachGrid(t *testing.T, do func(name string, x grid, n impl.Net, on []bool)) {
	t.Helper()
	for name, x := range grids() {
		n := readNet(t, x.net)
		on := allBut(n, x.off)
		do(name, x, n, on)
	}
}

// dropsAt are the drops at all buses.
func dropsAt(n impl.Net, on []bool, buses []impl.Bus, ohms []int) []int {
	drops := make([]int, len(buses))
	for bus := range drops {
		drops[bus] = impl.DropAt(n, on, buses, ohms, bus)
	}
	return drops
}

// loaded are buses with a greater Load at one of them.
func loaded(buses []impl.Bus, bus int, more int) []impl.Bus {
	buses = slices.Clone(buses)
	buses[bus].Load += more
	return buses
}

func TestP7MoreLoadNeverMakesADropLess(t *testing.T) {
	greater := 0
	turn := int64(0)
	eachRadial(func(n impl.Net, on []bool, buses []impl.Bus) {
		turn++
		ohms := someOhms(turn, len(n.Lines))
		before := dropsAt(n, on, buses, ohms)
		for bus := range buses {
			for other, drop := range dropsAt(n, on, loaded(buses, bus, 1), ohms) {
				check(t, drop >= before[other], n, on, buses, ohms, bus, other, drop, before[other])
				if drop > before[other] {
					greater++
				}
			}
		}
	})
	check(t, greater > 1000, "too few", greater)
}

// A Load that is greater by 1 makes the drop at its own bus greater by what all lines on the way there resist.
func TestP7OneMoreIsWantedAtABus(t *testing.T) {
	turn := int64(0)
	eachRadial(func(n impl.Net, on []bool, buses []impl.Bus) {
		turn++
		ohms := someOhms(turn, len(n.Lines))
		for _, bus := range impl.AliveBuses(n, on, buses) {
			way := 0
			for _, k := range impl.PathLines(n, on, buses, bus) {
				way += ohms[k]
			}
			before := impl.DropAt(n, on, buses, ohms, bus)
			after := impl.DropAt(n, on, loaded(buses, bus, 1), ohms, bus)
			check(t, after == before+way, n, on, buses, ohms, bus, before, after)
		}
	})
}

func TestP7FeedsHaveNoDropAndNoBusLessThanTheOneBeforeIt(t *testing.T) {
	eachDrop(func(n impl.Net, on []bool, buses []impl.Bus, ohms []int) {
		drops := dropsAt(n, on, buses, ohms)
		for bus, drop := range drops {
			if buses[bus].Feed > 0 {
				check(t, drop == 0, "feed", n, on, buses, ohms, bus, drop)
			}
			k := impl.ParentLine(n, on, buses, bus)
			if k < 0 {
				continue
			}
			before := drops[impl.OtherEnd(n, k, bus)]
			check(t, drop >= before, n, on, buses, ohms, bus, drop, before)
			step := impl.LineFlow(n, on, buses, k) * ohms[k]
			check(t, drop == before+step, "step", n, on, buses, ohms, bus, drop, before)
		}
	})
}

func TestP7DropAt(t *testing.T) {
	eachDrop(func(n impl.Net, on []bool, buses []impl.Bus, ohms []int) {
		drops, want := dropsAt(n, on, buses, ohms), dropsIn(n, on, buses, ohms)
		check(t, slices.Equal(drops, want), n, on, buses, ohms, drops, want)
	})
	eachGrid(t, func(name string, x grid, n impl.Net, on []bool) {
		drops := dropsAt(n, on, x.buses, x.ohms)
		check(t, slices.Equal(drops, x.drops), name, drops)
	})
}

// Exactly the buses that are alive have a drop.
func TestP7BusesThatAreNotAliveHaveNoDrop(t *testing.T) {
	eachDrop(func(n impl.Net, on []bool, buses []impl.Bus, ohms []int) {
		alive := impl.AliveBuses(n, on, buses)
		for bus, drop := range dropsAt(n, on, buses, ohms) {
			check(t, drop >= -1 && drop >= 0 == slices.Contains(alive, bus), n, on, buses, ohms, bus, drop)
		}
	})
}

func TestP87NoBusIsWorseThanTheWorstOne(t *testing.T) {
	dead, later := 0, 0
	eachDrop(func(n impl.Net, on []bool, buses []impl.Bus, ohms []int) {
		worst := impl.WorstBus(n, on, buses, ohms)
		alive := impl.AliveBuses(n, on, buses)
		if len(alive) == 0 {
			dead++
			check(t, worst == -1, "dead", n, on, buses, ohms, worst)
			return
		}
		check(t, slices.Contains(alive, worst), "alive", n, on, buses, ohms, worst)
		most := impl.DropAt(n, on, buses, ohms, worst)
		for _, bus := range alive {
			drop := impl.DropAt(n, on, buses, ohms, bus)
			check(t, drop <= most, n, on, buses, ohms, bus, worst)
			check(t, bus >= worst || drop < most, "before", n, on, buses, ohms, bus, worst)
			if bus > worst && drop == most {
				later++
			}
		}
	})
	check(t, dead > 100 && later > 1000, "too few", dead, later)
}

func TestP87WorstBus(t *testing.T) {
	eachGrid(t, func(name string, x grid, n impl.Net, on []bool) {
		worst := impl.WorstBus(n, on, x.buses, x.ohms)
		check(t, worst == x.worst, name, worst)
	})
	// Where nothing drops, the first bus that is alive is the worst one.
	eachRadial(func(n impl.Net, on []bool, buses []impl.Bus) {
		first := append(impl.AliveBuses(n, on, buses), -1)[0]
		worst := impl.WorstBus(n, on, buses, make([]int, len(n.Lines)))
		check(t, worst == first, n, on, buses, worst, first)
	})
}

// boundsAround are numbers around a drop, and far from it.
func boundsAround(drop int) []int {
	return []int{math.MinInt, -1000, -2, -1, 0, 1, drop - 1, drop, drop + 1, math.MaxInt}
}

func TestP88BoundsMayBeWider(t *testing.T) {
	eachEased(func(n impl.Net, on []bool, buses []impl.Bus, ohms []int, most int) {
		for _, more := range []int{0, 1, 2, 1000, math.MaxInt - max(0, most)} {
			check(t, impl.DropsWithin(n, on, buses, ohms, most+more), n, on, buses, ohms, most, more)
		}
	})
}

func TestP88BoundsHoldWithFewerLines(t *testing.T) {
	held := 0
	eachDrop(func(n impl.Net, on []bool, buses []impl.Bus, ohms []int) {
		most := slices.Max(dropsAt(n, on, buses, ohms))
		if !impl.DropsWithin(n, on, buses, ohms, most) {
			return
		}
		held++
		for k := range on {
			check(t, impl.DropsWithin(n, without(on, k), buses, ohms, most), n, on, buses, ohms, k, most)
		}
	})
	check(t, held > 1000, "too few", held)
}

func TestP88DropsWithin(t *testing.T) {
	held, other := 0, 0
	eachDrop(func(n impl.Net, on []bool, buses []impl.Bus, ohms []int) {
		drop := slices.Max(dropsIn(n, on, buses, ohms))
		good := isGood(n, on, buses)
		for _, most := range boundsAround(drop) {
			want := good && (drop < 0 || drop <= most)
			within := impl.DropsWithin(n, on, buses, ohms, most)
			check(t, within == want, n, on, buses, ohms, most, within)
			if within {
				held++
			} else {
				other++
			}
		}
	})
	check(t, held > 1000 && other > 1000, "too few", held, other)
	eachGrid(t, func(name string, x grid, n impl.Net, on []bool) {
		drop := slices.Max(x.drops)
		for _, most := range boundsAround(drop) {
			want := x.good && (drop < 0 || drop <= most)
			check(t, impl.DropsWithin(n, on, x.buses, x.ohms, most) == want, name, most)
		}
	})
}

// room is how much more may be wanted at each bus of a grid for a bound.
type room struct {
	grid  string
	most  int
	rooms []int
}

// rooms are worked out by hand. In the grid with the line that resists nothing the feed has 8 left, and the lines have 18, 16 and 5.
func rooms() []room {
	return []room{
		{"a line that resists nothing", 99, []int{8, 8, 8, 5}},
		{"a line that resists nothing", 44, []int{8, 8, 5, 5}},
		{"a line that resists nothing", 34, []int{8, 3, 2, 3}},
		{"a line that resists nothing", 31, []int{8, 1, 1, 1}},
		{"a line that resists nothing", 30, []int{8, 1, 0, 1}},
		{"a line that resists nothing", 29, []int{8, 0, 0, 0}},
		{"a line that resists nothing", 28, []int{8, 0, 0, 0}},
		{"a line that resists nothing", 27, []int{-1, -1, -1, -1}},
		{"a line that resists nothing", math.MinInt, []int{-1, -1, -1, -1}},
		{"a line that resists nothing", math.MaxInt, []int{8, 8, 8, 5}},
		{"the load of a feed drops nowhere", 12, []int{5, 0}},
		{"the load of a feed drops nowhere", 23, []int{5, 3}},
		{"the load of a feed drops nowhere", 99, []int{5, 5}},
		{"one bus that is a feed", 0, []int{0}},
		{"one bus that is a feed", -1, []int{-1}},
		{"a feed with too little", 99, []int{-1}},
		{"a line that carries too much", 99, []int{-1, -1}},
		{"two islands, of which one has too little", 99, []int{-1, -1, -1, -1, -1}},
		{"one bus that is dead", 99, []int{-1}},
		{"all dead", 99, []int{-1, -1, -1}},
		{"a feed alone", 0, []int{2, -1}},
		{"nothing is wanted", 0, []int{0, 0, 1}},
		{"nothing is wanted", 8, []int{0, 0, 1}},
		{"nothing is wanted", 9, []int{0, 1, 1}},
		{"nothing is wanted", 18, []int{1, 1, 1}},
		{"a feed in the middle", 99, []int{0, 0, 0, 0, 0}},
	}
}

func TestP89RoomsByHand(t *testing.T) {
	for _, x := range rooms() {
		g, ok := grids()[x.grid]
		check(t, ok, "no grid", x.grid)
		n := readNet(t, g.net)
		on := allBut(n, g.off)
		for bus, want := range x.rooms {
			room := impl.RoomAt(n, on, g.buses, g.ohms, x.most, bus)
			check(t, room == want, x.grid, x.most, bus, room)
		}
	}
}

// With nothing in the way, a Load can be as great as its feed can give; where a line resists, as the bound allows.
func TestP89GreatestRooms(t *testing.T) {
	n := readNet(t, "2 0-1:999")
	for _, x := range []struct{ load, ohm, most, want int }{
		{0, 0, 0, 999}, {990, 0, 0, 9}, {998, 0, 0, 1}, {999, 0, 0, 0}, {0, 0, -1, -1},
		{0, 9, 0, 0}, {0, 9, 8, 0}, {0, 9, 9, 1}, {0, 9, 8990, 998}, {0, 9, 8991, 999}, {0, 9, math.MaxInt, 999},
		{1, 9, 8, -1}, {1, 9, 9, 0}, {1, 9, 18, 1}, {600, 1, 999, 399}, {600, 1, 998, 398}, {600, 1, 600, 0}, {600, 1, 599, -1},
	} {
		buses := []impl.Bus{{Feed: impl.MaxPower}, {Load: x.load}}
		room := impl.RoomAt(n, []bool{true}, buses, []int{x.ohm}, x.most, 1)
		check(t, room == x.want, x, room)
	}
}

func TestP89RoomIsAllThatThereIs(t *testing.T) {
	none, some := 0, 0
	eachEased(func(n impl.Net, on []bool, buses []impl.Bus, ohms []int, most int) {
		for _, bus := range impl.AliveBuses(n, on, buses) {
			room := impl.RoomAt(n, on, buses, ohms, most, bus)
			check(t, room >= 0, "negative", n, on, buses, ohms, most, bus, room)
			check(t, buses[bus].Load+room <= impl.MaxPower, "load", n, on, buses, ohms, most, bus, room)
			check(t, impl.DropsWithin(n, on, loaded(buses, bus, room), ohms, most), n, on, buses, ohms, most, bus, room)
			check(t, !impl.DropsWithin(n, on, loaded(buses, bus, room+1), ohms, most), "one more", n, on, buses, ohms, most, bus, room)
			if room == 0 {
				none++
			} else {
				some++
			}
		}
	})
	check(t, none > 1000 && some > 1000, "too few", none, some)
}

func TestP89RoomAt(t *testing.T) {
	eachEased(func(n impl.Net, on []bool, buses []impl.Bus, ohms []int, most int) {
		for _, bus := range impl.AliveBuses(n, on, buses) {
			room, want := impl.RoomAt(n, on, buses, ohms, most, bus), roomIn(n, on, buses, ohms, most, bus)
			check(t, room == want, n, on, buses, ohms, most, bus, room, want)
		}
	})
}

// For every number from 0 on the bounds hold exactly if there is so much room.
func TestP89NoNumberInBetween(t *testing.T) {
	turn := 0
	eachEased(func(n impl.Net, on []bool, buses []impl.Bus, ohms []int, most int) {
		alive := impl.AliveBuses(n, on, buses)
		turn++
		if turn%50 > 0 || len(alive) == 0 {
			return
		}
		bus := alive[turn/50%len(alive)]
		room := impl.RoomAt(n, on, buses, ohms, most, bus)
		for more := range impl.MaxPower - buses[bus].Load + 1 {
			within := impl.DropsWithin(n, on, loaded(buses, bus, more), ohms, most)
			check(t, within == (more <= room), n, on, buses, ohms, most, bus, room, more)
		}
	})
}

// There is no room where the bounds do not hold already, nor at a bus that is not alive.
func TestP89NoRoom(t *testing.T) {
	tooFar, dead := 0, 0
	eachDrop(func(n impl.Net, on []bool, buses []impl.Bus, ohms []int) {
		drops, good := dropsIn(n, on, buses, ohms), isGood(n, on, buses)
		drop := slices.Max(drops)
		for bus := range buses {
			for _, most := range []int{-1, drop - 1, drop} {
				room := impl.RoomAt(n, on, buses, ohms, most, bus)
				if drops[bus] < 0 {
					dead++
					check(t, room == -1, "dead", n, on, buses, ohms, most, bus, room)
				} else if !good || drop > most {
					tooFar++
					check(t, room == -1, "too far", n, on, buses, ohms, most, bus, room)
				} else {
					check(t, room >= 0, n, on, buses, ohms, most, bus, room)
				}
			}
		}
	})
	check(t, tooFar > 1000 && dead > 1000, "too few", tooFar, dead)
}

func TestP7AndP89NoSuchBus(t *testing.T) {
	eachEased(func(n impl.Net, on []bool, buses []impl.Bus, ohms []int, most int) {
		for _, bus := range noBuses(n) {
			check(t, impl.DropAt(n, on, buses, ohms, bus) == -1, "drop", n, on, buses, ohms, bus)
			check(t, impl.RoomAt(n, on, buses, ohms, most, bus) == -1, "room", n, on, buses, ohms, bus)
		}
	})
}

// dropsAreRefused checks that nothing is told of what drops in a network.
func dropsAreRefused(t *testing.T, n impl.Net, on []bool, buses []impl.Bus, ohms []int, told string) {
	t.Helper()
	check(t, impl.WorstBus(n, on, buses, ohms) == -1, "worst", told, n, on, buses, ohms)
	for _, bus := range []int{-1, 0, 1, 7, 8, n.Buses - 1, n.Buses} {
		check(t, impl.DropAt(n, on, buses, ohms, bus) == -1, "drop", told, n, on, buses, ohms, bus)
		check(t, impl.RoomAt(n, on, buses, ohms, 1000, bus) == -1, "room", told, n, on, buses, ohms, bus)
	}
	for _, most := range []int{-1, 0, 1000, math.MaxInt} {
		check(t, !impl.DropsWithin(n, on, buses, ohms, most), "within", told, n, on, buses, ohms, most)
	}
}

func TestP7AndP87ToP89NotRadial(t *testing.T) {
	turn := int64(0)
	notRadial(t, func(n impl.Net, on []bool, buses []impl.Bus) {
		turn++
		dropsAreRefused(t, n, on, buses, someOhms(turn, len(n.Lines)), "not radial")
	})
}

func TestP7AndP87ToP89ResistancesThatAreNotValid(t *testing.T) {
	for k, n := range append(goodNets()[:40], chainNet(), starNet(), fullNet()) {
		for number, on := range netStates(n) {
			alone := forest(n, on)
			for told, ohms := range badOhms(len(n.Lines)) {
				dropsAreRefused(t, n, alone, oneFeed(int64(10*k+number), n, alone), ohms, told)
				dropsAreRefused(t, n, alone, make([]impl.Bus, n.Buses), ohms, "dead, "+told)
			}
		}
	}
}

func TestP7AndP87ToP89ArgumentsThatAreNotValid(t *testing.T) {
	eachWrongLife(func(n impl.Net, on []bool, buses []impl.Bus, told string) {
		for _, lines := range []int{len(n.Lines), len(on)} {
			dropsAreRefused(t, n, on, buses, make([]int, lines), told)
			dropsAreRefused(t, n, on, buses, slices.Repeat([]int{impl.MaxOhms}, lines), told)
		}
		dropsAreRefused(t, n, on, buses, nil, told)
	})
}

func TestDropsWriteToNoArgument(t *testing.T) {
	whole := readNet(t, "6 0-1:20 1-2:20 2-3:20 4-5:20 3-4:20 0-2:20")
	lines := whole.Lines
	n := impl.Net{Buses: 6, Lines: lines[:4]}
	stateMemory := []bool{true, true, true, true, true, false}
	busMemory := []impl.Bus{{Feed: 19, Load: 1}, {Load: 2}, {Load: 3}, {Load: 4}, {Feed: 15}, {Load: 6}, {Feed: 7}}
	ohmMemory := []int{1, 2, 3, 4, 5, 6}
	on, buses, ohms := stateMemory[:4], busMemory[:6], ohmMemory[:4]
	linesBefore, statesBefore := slices.Clone(lines), slices.Clone(stateMemory)
	busesBefore, ohmsBefore := slices.Clone(busMemory), slices.Clone(ohmMemory)
	for range 2 {
		check(t, slices.Equal(dropsAt(n, on, buses, ohms), []int{0, 9, 23, 35, 0, 24}), "drops")
		check(t, impl.WorstBus(n, on, buses, ohms) == 3, "worst")
		check(t, impl.DropsWithin(n, on, buses, ohms, 35) && !impl.DropsWithin(n, on, buses, ohms, 34), "within")
		check(t, impl.RoomAt(n, on, buses, ohms, 60, 3) == 4 && impl.RoomAt(n, on, buses, ohms, 60, 5) == 9, "room")
	}
	check(t, slices.Equal(lines, linesBefore) && slices.Equal(stateMemory, statesBefore), "a network or state was written to")
	check(t, slices.Equal(busMemory, busesBefore) && slices.Equal(ohmMemory, ohmsBefore), "buses or resistances were written to")
}
