package tests

import (
	"slices"
	"testing"

	"loop.example/powercontrol/impl"
)

func TestP8DeedsKeepASafeBaySafe(t *testing.T) {
	done := 0
	for _, b := range safeBays() {
		for deed := -1; deed <= deedsOfBay; deed++ {
			if !impl.BayMay(b, deed) {
				continue
			}
			done++
			after, ok := impl.BayDo(b, deed)
			check(t, ok && impl.BaySafe(after), b, deed, after, ok)
			check(t, !impl.BayMay(after, deed), "again", b, deed, after)
			check(t, impl.BayMay(after, contrary(deed)), "contrary", b, deed, after)
		}
	}
	// The breaker may always be moved, the isolator on the side of the busbar in the 6 bays whose breaker is open, that on the side of the line in the 4 of these that are not earthed, and the earth switch in the 8 whose line is apart.
	check(t, done == 12+6+4+8, done)
}

func TestP8NoIsolatorMovesWhileTheBreakerIsClosed(t *testing.T) {
	for _, b := range sixteenBays() {
		for _, deed := range append([]int{0, 1, 2, 3, 4, 5, 6, 7}, noDeeds()...) {
			after, _ := impl.BayDo(b, deed)
			still := after.BusSide == b.BusSide && after.LineSide == b.LineSide
			check(t, still || !b.Breaker && !after.Breaker, b, deed, after)
		}
		if b.Breaker {
			for _, deed := range []int{openBusSide, closeBusSide, openLineSide, closeLineSide} {
				check(t, !impl.BayMay(b, deed), b, deed)
			}
		}
	}
}

// What may be done in each bay, worked out by hand; also in those that are not safe.
func TestP8BayMayByHand(t *testing.T) {
	for closed, deeds := range map[string][]int{
		"":     {1, 3, 5, 7},
		"b":    {0, 7},
		"s":    {1, 2, 5, 7},
		"bs":   {0, 7},
		"l":    {1, 3, 4},
		"bl":   {0},
		"sl":   {1, 2, 4},
		"bsl":  {0},
		"e":    {1, 3, 6},
		"be":   {0, 6},
		"se":   {1, 2, 6},
		"bse":  {0, 6},
		"le":   {1, 3, 4, 6},
		"ble":  {0, 6},
		"sle":  {1, 2, 4, 6},
		"bsle": {0, 6},
	} {
		for deed := range deedsOfBay {
			may := impl.BayMay(bay(closed), deed)
			check(t, may == slices.Contains(deeds, deed), closed, deed, may)
		}
	}
}

func TestP8BayMay(t *testing.T) {
	for _, b := range sixteenBays() {
		for deed := -20; deed <= 40; deed++ {
			check(t, impl.BayMay(b, deed) == mayIn(b, deed), b, deed)
		}
	}
}

// The numbers of the parts make the deeds.
func TestP8DeedsAreNumbersOfParts(t *testing.T) {
	for part, closed := range map[int]string{impl.PartBreaker: "b", impl.PartBus: "s", impl.PartLine: "l", impl.PartEarth: "e"} {
		after, ok := impl.BayDo(impl.Bay{}, 2*part+1)
		check(t, ok && after == bay(closed), "close", part, after, ok)
		after, ok = impl.BayDo(bay(closed), 2*part)
		check(t, ok && after == impl.Bay{}, "open", part, after, ok)
	}
}

// A deed that would change nothing may not be done.
func TestP8DeedsThatWouldChangeNothing(t *testing.T) {
	none := 0
	for _, b := range sixteenBays() {
		for deed := range deedsOfBay {
			if moved(b, deed) == b {
				none++
				check(t, !impl.BayMay(b, deed), b, deed)
			}
		}
	}
	check(t, none == 16*deedsOfBay/2, none)
}

func TestP8AndP91NumbersThatAreNoDeeds(t *testing.T) {
	for _, b := range sixteenBays() {
		for _, deed := range noDeeds() {
			check(t, !impl.BayMay(b, deed), "may", b, deed)
			after, ok := impl.BayDo(b, deed)
			check(t, !ok && after == b, "do", b, deed, after, ok)
			after, done := impl.BayRun(b, []int{deed})
			check(t, done == 0 && after == b, "run", b, deed, after, done)
		}
	}
}

func TestP8AndP90BaySafe(t *testing.T) {
	for _, b := range safeBays() {
		check(t, impl.BaySafe(b), b)
	}
	for _, b := range unsafeBays() {
		check(t, !impl.BaySafe(b), b)
	}
}

func TestP9NoListOfDeedsMakesASafeBayUnsafe(t *testing.T) {
	runs := 0
	eachRequest(func(b impl.Bay, deeds []int) {
		if !impl.BaySafe(b) {
			return
		}
		runs++
		after, done := impl.BayRun(b, deeds)
		check(t, impl.BaySafe(after), b, deeds, after, done)
	})
	check(t, runs > 100000, "too few", runs)
}

func TestP9TheFirstDeedsRunAloneLeadToTheSameBay(t *testing.T) {
	some, all := 0, 0
	eachRequest(func(b impl.Bay, deeds []int) {
		after, done := impl.BayRun(b, deeds)
		check(t, 0 <= done && done <= len(deeds), b, deeds, done)
		alone, again := impl.BayRun(b, deeds[:done])
		check(t, alone == after && again == done, b, deeds, after, done, alone, again)
		if done == len(deeds) {
			all++
			return
		}
		some++
		check(t, !impl.BayMay(after, deeds[done]), "stopped too soon", b, deeds, after, done)
	})
	check(t, some > 100000 && all > 1000, "too few", some, all)
}

func TestP9DeedsCanBeUndoneInTheOtherOrder(t *testing.T) {
	undone := 0
	eachRequest(func(b impl.Bay, deeds []int) {
		if !impl.BaySafe(b) {
			return
		}
		after, done := impl.BayRun(b, deeds)
		back := []int{}
		for k := done - 1; k >= 0; k-- {
			back = append(back, contrary(deeds[k]))
		}
		before, many := impl.BayRun(after, back)
		check(t, before == b && many == done, b, deeds, after, done, before, many)
		if done > 1 {
			undone++
		}
	})
	check(t, undone > 1000, "too few", undone)
}

func TestP9BayRun(t *testing.T) {
	eachRequest(func(b impl.Bay, deeds []int) {
		after, done := impl.BayRun(b, deeds)
		want, many := runIn(b, deeds)
		check(t, after == want && done == many, b, deeds, after, done, want, many)
	})
}

func TestP9BayRunByHand(t *testing.T) {
	for _, x := range []struct {
		from  string
		deeds []int
		to    string
		done  int
	}{
		{"bsl", nil, "bsl", 0},
		{"", []int{}, "", 0},
		{"bsl", []int{openBreaker, openLineSide, openBusSide, closeEarth}, "e", 4},
		{"bsl", []int{openBreaker, openLineSide, closeEarth, closeLineSide}, "se", 3},
		{"bsl", []int{openLineSide, openBreaker}, "bsl", 0},
		{"e", []int{closeBusSide, closeLineSide, openEarth}, "se", 1},
		{"e", []int{openEarth, closeLineSide, closeBusSide, closeBreaker}, "bsl", 4},
		{"", []int{closeBreaker, closeBreaker, openBreaker}, "b", 1},
		{"s", []int{openBusSide, openBusSide}, "", 1},
		{"bse", []int{openEarth, closeEarth, openEarth, closeEarth, openBreaker}, "se", 5},
		{"l", []int{openLineSide, closeEarth, -1, openEarth}, "e", 2},
		{"l", []int{8, openLineSide}, "l", 0},
		{"bsle", []int{openEarth, closeEarth}, "bsl", 1},
		{"sle", []int{closeLineSide}, "sle", 0},
		{"sle", []int{openLineSide, closeLineSide}, "se", 1},
		{"ble", []int{openBreaker, closeBusSide, closeEarth}, "sle", 2},
	} {
		after, done := impl.BayRun(bay(x.from), x.deeds)
		check(t, after == bay(x.to) && done == x.done, x, after, done)
	}
}

func TestP10PlansLeadFromAnySafeBayToAnyOther(t *testing.T) {
	for _, from := range safeBays() {
		for _, to := range safeBays() {
			plan, ok := impl.BayPlan(from, to)
			check(t, ok && len(plan) <= 8, from, to, plan, ok)
			b := from
			for k, deed := range plan {
				check(t, impl.BayMay(b, deed), "may not", from, to, plan, k)
				b, _ = impl.BayDo(b, deed)
			}
			check(t, b == to, from, to, plan, b)
			after, done := impl.BayRun(from, plan)
			check(t, after == to && done == len(plan), "run", from, to, plan, after, done)
		}
	}
}

// No list that leads there has fewer deeds, and of those with as many none has a lesser one at the first difference.
func TestP10NoListIsShorterOrBeforeThePlan(t *testing.T) {
	longest := 0
	for _, from := range safeBays() {
		plans := firstPlans(from)
		check(t, len(plans) == len(safeBays()), from, len(plans))
		for _, to := range safeBays() {
			plan, ok := impl.BayPlan(from, to)
			check(t, ok && slices.Equal(plan, plans[to]), from, to, plan, plans[to], ok)
			longest = max(longest, len(plan))
		}
	}
	// Each part is moved once, and the breaker twice where it must be open in between.
	check(t, longest == 5, "longest", longest)
}

func TestP10BayPlanByHand(t *testing.T) {
	for _, x := range []struct {
		from string
		to   string
		plan []int
	}{
		{"", "", nil},
		{"bsl", "bsl", nil},
		{"bse", "bse", nil},
		{"", "b", []int{closeBreaker}},
		{"bsl", "", []int{openBreaker, openBusSide, openLineSide}},
		{"bsl", "e", []int{openBreaker, openBusSide, openLineSide, closeEarth}},
		{"e", "bsl", []int{closeBusSide, openEarth, closeLineSide, closeBreaker}},
		// The breaker opens for an isolator, and closes again.
		{"b", "bs", []int{openBreaker, closeBusSide, closeBreaker}},
		{"bsl", "bs", []int{openBreaker, openLineSide, closeBreaker}},
		// Between two deeds that do not hinder each other the lesser one is first, and so it is at every step.
		{"", "bse", []int{closeBusSide, closeBreaker, closeEarth}},
		{"be", "bs", []int{openBreaker, closeBusSide, closeBreaker, openEarth}},
		{"l", "be", []int{openLineSide, closeBreaker, closeEarth}},
		{"s", "be", []int{openBusSide, closeBreaker, closeEarth}},
		// The longest plans.
		{"bl", "bse", []int{openBreaker, closeBusSide, openLineSide, closeBreaker, closeEarth}},
		{"bse", "bl", []int{openBreaker, openBusSide, openEarth, closeLineSide, closeBreaker}},
		{"be", "bsl", []int{openBreaker, closeBusSide, openEarth, closeLineSide, closeBreaker}},
	} {
		plan, ok := impl.BayPlan(bay(x.from), bay(x.to))
		check(t, ok && slices.Equal(plan, x.plan), x, plan, ok)
	}
}

func TestP10NoPlanWithABayThatIsNotSafe(t *testing.T) {
	for _, wrong := range unsafeBays() {
		for _, other := range sixteenBays() {
			plan, ok := impl.BayPlan(wrong, other)
			check(t, plan == nil && !ok, "from", wrong, other, plan, ok)
			plan, ok = impl.BayPlan(other, wrong)
			check(t, plan == nil && !ok, "to", other, wrong, plan, ok)
		}
	}
}

// Plans share no memory: what is written into one, also behind its end, is not seen in the next one.
func TestP10PlansAreNewEachTime(t *testing.T) {
	for _, from := range safeBays() {
		for _, to := range safeBays() {
			plan, _ := impl.BayPlan(from, to)
			before := slices.Clone(plan)
			next, _ := impl.BayPlan(from, to)
			whole := plan[:cap(plan)]
			for k := range whole {
				whole[k] = -1
			}
			last, _ := impl.BayPlan(from, to)
			check(t, slices.Equal(next, before) && slices.Equal(last, before), from, to, before, next, last)
		}
	}
}

func TestP90AnEarthedLineIsApart(t *testing.T) {
	earthed := 0
	for _, b := range safeBays() {
		if !b.Earth {
			continue
		}
		earthed++
		b.LineSide = false
		check(t, impl.BaySafe(b), "open", b)
		b.LineSide = true
		check(t, !impl.BaySafe(b), "closed", b)
	}
	check(t, earthed == 4, earthed)
}

// As long as the line of a safe bay is earthed, whatever is asked, its isolator stays open.
func TestP90TheIsolatorStaysOpenWhileTheLineIsEarthed(t *testing.T) {
	earthed := 0
	eachRequest(func(b impl.Bay, deeds []int) {
		if !impl.BaySafe(b) {
			return
		}
		after, _ := impl.BayRun(b, deeds)
		if !after.Earth {
			return
		}
		earthed++
		check(t, !after.LineSide, b, deeds, after)
		check(t, !impl.BayMay(after, closeLineSide), "closed", b, deeds, after)
	})
	check(t, earthed > 1000, "too few", earthed)
}

func TestP91TheContraryLeadsBack(t *testing.T) {
	for _, b := range safeBays() {
		for deed := range deedsOfBay {
			after, ok := impl.BayDo(b, deed)
			if !ok {
				continue
			}
			check(t, after != b, "nothing changed", b, deed)
			back, ok := impl.BayDo(after, contrary(deed))
			check(t, ok && back == b, b, deed, after, back, ok)
		}
	}
}

func TestP91WhatMayNotBeDoneChangesNothing(t *testing.T) {
	refused := 0
	for _, b := range sixteenBays() {
		for deed := -20; deed <= 40; deed++ {
			after, ok := impl.BayDo(b, deed)
			check(t, ok == impl.BayMay(b, deed), "may", b, deed, ok)
			if !ok {
				refused++
				check(t, after == b, b, deed, after)
			}
		}
	}
	check(t, refused > 800, "too few", refused)
}

// Exactly the part of the deed is moved.
func TestP91BayDo(t *testing.T) {
	for _, b := range sixteenBays() {
		for deed := range deedsOfBay {
			after, ok := impl.BayDo(b, deed)
			if mayIn(b, deed) {
				check(t, ok && after == moved(b, deed), b, deed, after, ok)
			} else {
				check(t, !ok && after == b, "may not", b, deed, after, ok)
			}
		}
	}
}

func TestBaysWriteToNoArgument(t *testing.T) {
	memory := []int{openBreaker, openBusSide, openLineSide, closeEarth, closeLineSide, openEarth}
	before := slices.Clone(memory)
	for range 2 {
		after, done := impl.BayRun(bay("bsl"), memory[:3])
		check(t, after == bay("") && done == 3, after, done)
		after, done = impl.BayRun(bay("bsl"), memory)
		check(t, after == bay("e") && done == 4, after, done)
	}
	check(t, slices.Equal(memory, before), "deeds were written to", memory)
}
