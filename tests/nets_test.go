package tests

import (
	"math"
	"math/rand"
	"slices"

	"loop.example/powercontrol/impl"
)

// farNumbers lie far outside every range of the document.
var farNumbers = []int{math.MinInt, -1000, math.MaxInt}

// ringNet is a network of so many buses, each with a line to the next one, and with lines across as long as there are any left.
func ringNet(buses int, lines int) impl.Net {
	n := impl.Net{Buses: buses}
	for k := range lines {
		n.Lines = append(n.Lines, impl.Line{A: k % buses, B: (k + 1 + k/buses) % buses, Most: 1 + 111*k%impl.MaxPower})
	}
	return n
}

// fullNet has as many buses and lines as a network can have.
func fullNet() impl.Net {
	return ringNet(impl.MaxBuses, impl.MaxLines)
}

// parallelNet has nothing but lines between the same two buses, in both directions.
func parallelNet(buses int, lines int) impl.Net {
	n := impl.Net{Buses: buses}
	for k := range lines {
		n.Lines = append(n.Lines, impl.Line{A: k % 2, B: 1 - k%2, Most: impl.MaxPower - k})
	}
	return n
}

// chainNet is a network whose lines form one chain over all buses, told from its far end, so that islands grow against the order of the lines.
func chainNet() impl.Net {
	n := impl.Net{Buses: impl.MaxBuses}
	for bus := impl.MaxBuses - 1; bus > 0; bus-- {
		n.Lines = append(n.Lines, impl.Line{A: bus, B: bus - 1, Most: 10})
	}
	return n
}

// crossedNet is a network whose chain of lines goes to and fro between low and high buses: 0-7-1-6-2-5-3-4.
func crossedNet() impl.Net {
	order := []int{0, 7, 1, 6, 2, 5, 3, 4}
	n := impl.Net{Buses: impl.MaxBuses}
	for k := range len(order) - 1 {
		n.Lines = append(n.Lines, impl.Line{A: order[k], B: order[k+1], Most: 10})
	}
	return n
}

// starNet is a network with a line from its last bus to every other one, so that only this bus holds them together.
func starNet() impl.Net {
	n := impl.Net{Buses: impl.MaxBuses}
	for bus := range impl.MaxBuses - 1 {
		n.Lines = append(n.Lines, impl.Line{A: impl.MaxBuses - 1, B: bus, Most: 10})
	}
	return n
}

// someNet is a network by chance, the same one for the same seed; with few buses it has many parallel lines.
func someNet(seed int64) impl.Net {
	r := rand.New(rand.NewSource(seed))
	n := impl.Net{Buses: 2 + r.Intn(impl.MaxBuses-1)}
	for range r.Intn(impl.MaxLines + 1) {
		a := r.Intn(n.Buses)
		b := (a + 1 + r.Intn(n.Buses-1)) % n.Buses
		n.Lines = append(n.Lines, impl.Line{A: a, B: b, Most: 1 + r.Intn(impl.MaxPower)})
	}
	return n
}

// goodNets are valid networks: the least and the greatest, those with parallel lines, and many by chance.
func goodNets() []impl.Net {
	list := []impl.Net{
		{Buses: 1},
		{Buses: 1, Lines: []impl.Line{}},
		{Buses: impl.MaxBuses},
		{Buses: 2, Lines: []impl.Line{{A: 1, B: 0, Most: 1}}},
		{Buses: 8, Lines: []impl.Line{{A: 7, B: 0, Most: impl.MaxPower}}},
		parallelNet(2, impl.MaxLines),
		parallelNet(impl.MaxBuses, impl.MaxLines),
		ringNet(3, 3),
		fullNet(),
	}
	for seed := range int64(200) {
		list = append(list, someNet(seed))
	}
	return list
}

// withLine is the network with another line at an index.
func withLine(n impl.Net, at int, l impl.Line) impl.Net {
	n.Lines = slices.Clone(n.Lines)
	n.Lines[at] = l
	return n
}

// badNets are networks that are not valid, by names that tell what is wrong with them.
func badNets() map[string]impl.Net {
	bad := map[string]impl.Net{
		"zero value":       {},
		"no buses":         {Buses: 0, Lines: []impl.Line{{A: 0, B: 1, Most: 1}}},
		"too many lines":   parallelNet(2, impl.MaxLines+1),
		"many more lines":  parallelNet(8, 50),
		"one bus and loop": {Buses: 1, Lines: []impl.Line{{A: 0, B: 0, Most: 1}}},
		"one bus and line": {Buses: 1, Lines: []impl.Line{{A: 0, B: 1, Most: 1}}},
	}
	for _, buses := range append([]int{-1, impl.MaxBuses + 1}, farNumbers...) {
		bad["buses "+text(buses)] = impl.Net{Buses: buses}
		bad["buses with line "+text(buses)] = impl.Net{Buses: buses, Lines: []impl.Line{{A: 0, B: 1, Most: 1}}}
	}
	for at := range 3 {
		n := ringNet(4, 3)
		good := n.Lines[at]
		for _, end := range append([]int{-1, 4, 5, impl.MaxBuses}, farNumbers...) {
			bad["A "+text(at, end)] = withLine(n, at, impl.Line{A: end, B: good.B, Most: good.Most})
			bad["B "+text(at, end)] = withLine(n, at, impl.Line{A: good.A, B: end, Most: good.Most})
		}
		for _, most := range append([]int{-1, 0, impl.MaxPower + 1}, farNumbers...) {
			bad["Most "+text(at, most)] = withLine(n, at, impl.Line{A: good.A, B: good.B, Most: most})
		}
		bad["loop "+text(at)] = withLine(n, at, impl.Line{A: good.B, B: good.B, Most: good.Most})
	}
	return bad
}
