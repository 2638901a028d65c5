package tests

import (
	"math/rand"

	"loop.example/powercontrol/impl"
)

// The deeds of a bay, by what they do.
const (
	openBreaker = iota
	closeBreaker
	openBusSide
	closeBusSide
	openLineSide
	closeLineSide
	openEarth
	closeEarth
	deedsOfBay
)

// bay is a bay in which the parts are closed whose letters a text has: b for the breaker, s and l for the isolators on the side of the busbar and of the line, e for the earth switch.
func bay(closed string) impl.Bay {
	b := impl.Bay{}
	for _, letter := range closed {
		switch letter {
		case 'b':
			b.Breaker = true
		case 's':
			b.BusSide = true
		case 'l':
			b.LineSide = true
		case 'e':
			b.Earth = true
		}
	}
	return b
}

// safeBays are all bays that are safe.
func safeBays() []impl.Bay {
	var list []impl.Bay
	for _, closed := range []string{"", "b", "s", "bs", "l", "bl", "sl", "bsl", "e", "be", "se", "bse"} {
		list = append(list, bay(closed))
	}
	return list
}

// unsafeBays are all bays that are not.
func unsafeBays() []impl.Bay {
	return []impl.Bay{bay("le"), bay("ble"), bay("sle"), bay("bsle")}
}

// sixteenBays are all bays.
func sixteenBays() []impl.Bay {
	return append(safeBays(), unsafeBays()...)
}

// noDeeds are numbers that are no deeds; some of them would be, if a part of their bits were all that is looked at.
func noDeeds() []int {
	list := []int{-8, -7, -3, -2, -1, 8, 9, 10, 13, 15, 16, 17, 31, 32, 64, 255, 256, 257, 1 << 16, 1<<31 - 1, 1 << 31, 1 << 32, 1<<32 + 1, 1 << 62}
	return append(list, farNumbers...)
}

// mayIn reports whether a deed may be done in a bay, as the document has it, deed by deed.
func mayIn(b impl.Bay, deed int) bool {
	switch deed {
	case openBreaker:
		return b.Breaker
	case closeBreaker:
		return !b.Breaker
	case openBusSide:
		return b.BusSide && !b.Breaker
	case closeBusSide:
		return !b.BusSide && !b.Breaker
	case openLineSide:
		return b.LineSide && !b.Breaker
	case closeLineSide:
		return !b.LineSide && !b.Breaker && !b.Earth
	case openEarth:
		return b.Earth
	case closeEarth:
		return !b.Earth && !b.LineSide
	}
	return false
}

// moved is a bay after a deed, whether it may be done or not.
func moved(b impl.Bay, deed int) impl.Bay {
	closed := deed == closeBreaker || deed == closeBusSide || deed == closeLineSide || deed == closeEarth
	switch deed {
	case openBreaker, closeBreaker:
		b.Breaker = closed
	case openBusSide, closeBusSide:
		b.BusSide = closed
	case openLineSide, closeLineSide:
		b.LineSide = closed
	case openEarth, closeEarth:
		b.Earth = closed
	}
	return b
}

// contrary opens what a deed closes, and closes what it opens.
func contrary(deed int) int {
	if deed%2 == 0 {
		return deed + 1
	}
	return deed - 1
}

// runIn is a bay after deeds up to the first one that may not be done, and how many were done, as the document has it.
func runIn(b impl.Bay, deeds []int) (impl.Bay, int) {
	done := 0
	for done < len(deeds) && mayIn(b, deeds[done]) {
		b = moved(b, deeds[done])
		done++
	}
	return b, done
}

// eachRequest calls a function for many lists of deeds, each in all bays: all short lists, also of numbers that are no deeds, and long ones by chance.
func eachRequest(do func(b impl.Bay, deeds []int)) {
	lists := [][]int{{}}
	for from, length := 0, 0; length < 4; length++ {
		to := len(lists)
		for _, list := range lists[from:to] {
			for deed := -1; deed <= deedsOfBay; deed++ {
				lists = append(lists, append(list[:len(list):len(list)], deed))
			}
		}
		from = to
	}
	for _, deed := range noDeeds() {
		lists = append(lists, []int{deed}, []int{openBreaker, deed, closeBreaker}, []int{closeBreaker, openBreaker, deed})
	}
	for _, b := range sixteenBays() {
		do(b, nil)
		for _, list := range lists {
			do(b, list)
		}
		for seed := range int64(50) {
			do(b, someDeeds(seed, b))
		}
	}
}

// someDeeds are many deeds by chance, the same ones for the same seed; far into the list all of them may be done, and behind it most may not.
func someDeeds(seed int64, b impl.Bay) []int {
	r := rand.New(rand.NewSource(seed))
	deeds := []int{}
	for range r.Intn(100) {
		deed := r.Intn(deedsOfBay)
		for !mayIn(b, deed) {
			deed = r.Intn(deedsOfBay)
		}
		deeds, b = append(deeds, deed), moved(b, deed)
	}
	for range r.Intn(5) {
		deeds = append(deeds, r.Intn(deedsOfBay+2)-1)
	}
	return deeds
}

// firstPlans are for each bay to which deeds lead from a bay the first of the shortest lists that do: found by trying all lists, the shorter ones first, and of those with as many deeds the one with the lesser deed first.
func firstPlans(from impl.Bay) map[impl.Bay][]int {
	plans := map[impl.Bay][]int{}
	for length := range 8 {
		var try func(b impl.Bay, deeds []int)
		try = func(b impl.Bay, deeds []int) {
			if len(deeds) == length {
				if _, known := plans[b]; !known {
					plans[b] = append([]int{}, deeds...)
				}
				return
			}
			for deed := range deedsOfBay {
				if mayIn(b, deed) {
					try(moved(b, deed), append(deeds, deed))
				}
			}
		}
		try(from, nil)
	}
	return plans
}
