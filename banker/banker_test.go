package banker

import (
	"math"
	"slices"
	"testing"

	"carfax/api"
	"carfax/sample"
)

// The tests hold the package against slow answers, worked out on the lists as they are, by trying one order behind the other.

func claim(hold, need []int) api.Claim { return api.Claim{Hold: hold, Need: need} }

func list(numbers ...int) []int { return numbers }

func slowRight(l []api.Claim) bool {
	if len(l) > 8 {
		return false
	}
	for who, c := range l {
		for _, n := range slices.Concat(c.Hold, c.Need) {
			if n < 0 || n > 25 {
				return false
			}
		}
		for _, other := range l[:who] {
			for _, zone := range c.Hold {
				if slices.Contains(other.Hold, zone) {
					return false
				}
			}
		}
	}
	return true
}

// slowIsOrder tells of places that each stand once whether they are an order.
func slowIsOrder(l []api.Claim, order []int) bool {
	for i, who := range order {
		for _, zone := range l[who].Need {
			for _, other := range order[i+1:] {
				if slices.Contains(l[other].Hold, zone) {
					return false
				}
			}
		}
	}
	return true
}

// permutations is all ways in which places from 0 on can stand, the least first.
func permutations(many int) [][]int {
	all := [][]int{nil}
	for range many {
		var longer [][]int
		for _, p := range all {
			for who := range many {
				if !slices.Contains(p, who) {
					longer = append(longer, append(slices.Clone(p), who))
				}
			}
		}
		all = longer
	}
	return all
}

// slow keeps the permutations that were asked for.
type slow map[int][][]int

func (s slow) order(l []api.Claim) ([]int, bool) {
	if !slowRight(l) {
		return nil, false
	}
	if s[len(l)] == nil {
		s[len(l)] = permutations(len(l))
	}
	for _, p := range s[len(l)] {
		if slowIsOrder(l, p) {
			return p, true
		}
	}
	return nil, false
}

func (s slow) may(l []api.Claim, who, zone int) bool {
	if !slowRight(l) || who < 0 || who >= len(l) || zone < 0 || zone > 25 {
		return false
	}
	for _, c := range l {
		if slices.Contains(c.Hold, zone) {
			return false
		}
	}
	_, safe := s.order(given(l, who, zone))
	return safe
}

// given is claims of which one holds a zone, too.
func given(l []api.Claim, who, zone int) []api.Claim {
	l = copied(l)
	l[who].Hold = append(l[who].Hold, zone)
	return l
}

func copied(l []api.Claim) []api.Claim {
	l = slices.Clone(l)
	for who, c := range l {
		l[who] = claim(slices.Clone(c.Hold), slices.Clone(c.Need))
	}
	return l
}

func same(l, other []api.Claim) bool {
	return slices.EqualFunc(l, other, func(a, b api.Claim) bool {
		return slices.Equal(a.Hold, b.Hold) && slices.Equal(a.Need, b.Need)
	})
}

// outside is numbers that are no zones; some of them are one, if their lowest bits alone are looked at.
func outside() []int {
	return []int{-1, -2, -6, -26, -32, -64, 26, 27, 31, 32, 33, 63, 64, 65, 256, 1 << 16, 1 << 32, 1<<32 + 1, 1 << 62, math.MinInt32, math.MinInt, math.MinInt + 1, math.MaxInt32, math.MaxInt - 1, math.MaxInt}
}

// mixed is right claims: of the zones up to a number some are held, and each one needs up to so many of them, some more than once.
func mixed(many, zones, needs int, draw func(below int) int) []api.Claim {
	l := make([]api.Claim, many)
	for zone := range zones {
		if who := draw(many + 2); who < many {
			l[who].Hold = append(l[who].Hold, zone)
		}
	}
	for who := range l {
		for range draw(needs + 1) {
			l[who].Need = append(l[who].Need, draw(zones))
		}
		if hold := l[who].Hold; len(hold) > 0 && draw(4) == 0 {
			l[who].Hold = append(hold, hold[0])
		}
	}
	return l
}

// mixes is many mixed claims, of any number that may be, and how safe they are differs.
func mixes(many int) [][]api.Claim {
	var all [][]api.Claim
	for seed := range many {
		draw := sample.Numbers(seed)
		all = append(all, mixed(1+draw(8), 1+draw(26), draw(5), draw))
	}
	return all
}

// sets is all sets of the zones below a number.
func sets(zones int) [][]int {
	all := [][]int{nil}
	for zone := range zones {
		for _, s := range all {
			all = append(all, append(slices.Clone(s), zone))
		}
	}
	return all
}

// small is all right claims of so many robots, that hold and need some of so many zones.
func small(many, zones int) [][]api.Claim {
	all := [][]api.Claim{nil}
	for range many {
		var more [][]api.Claim
		for _, l := range all {
			for _, hold := range sets(zones) {
				for _, need := range sets(zones) {
					if longer := append(slices.Clone(l), claim(hold, need)); slowRight(longer) {
						more = append(more, longer)
					}
				}
			}
		}
		all = more
	}
	return all
}

// chain is claims of which each one needs what the next one holds.
func chain(many int) []api.Claim {
	var l []api.Claim
	for who := range many {
		l = append(l, claim(list(who), list(who+1)))
	}
	return l
}

// ring is a chain whose last one needs what the first one holds.
func ring(many int) []api.Claim {
	l := chain(many)
	l[many-1].Need = list(0)
	return l
}

// full is as many claims as may be, that hold all zones, and of which each one needs all that those ahead of it hold.
func full() []api.Claim {
	l := make([]api.Claim, api.MaxRobots)
	for zone := range api.MaxZones {
		who := zone % api.MaxRobots
		l[who].Hold = append(l[who].Hold, zone)
		for other := who; other < api.MaxRobots; other++ {
			l[other].Need = append(l[other].Need, zone)
		}
	}
	return l
}

// crossed is as many claims as may be, of which two hold and need as one told, and the others nothing.
func crossed(one, other int, first, second api.Claim) []api.Claim {
	l := make([]api.Claim, api.MaxRobots)
	l[one], l[other] = first, second
	return l
}

func wantRight(t *testing.T, l []api.Claim, want bool) {
	t.Helper()
	if got := Right(l); got != want {
		t.Errorf("Right(%v) is %v, want %v", l, got, want)
	}
}

func wantOrder(t *testing.T, l []api.Claim, order []int, safe bool) {
	t.Helper()
	got, is := Order(l)
	if !slices.Equal(got, order) || is != safe {
		t.Errorf("Order(%v) is %v, %v, want %v, %v", l, got, is, order, safe)
	}
	if is := Safe(l); is != safe {
		t.Errorf("Safe(%v) is %v, want %v", l, is, safe)
	}
}

func wantMay(t *testing.T, l []api.Claim, who, zone int, want bool) {
	t.Helper()
	if got := May(l, who, zone); got != want {
		t.Errorf("May(%v, %d, %d) is %v, want %v", l, who, zone, got, want)
	}
}

// wantWrong asks all of claims that are not right.
func wantWrong(t *testing.T, l []api.Claim) {
	t.Helper()
	wantRight(t, l, false)
	wantOrder(t, l, nil, false)
	for who := -1; who <= len(l); who++ {
		for zone := range api.MaxZones {
			wantMay(t, l, who, zone, false)
		}
	}
}

// wantLike asks all of claims that is asked of the slow one.
func (s slow) wantLike(t *testing.T, l []api.Claim, zones []int) {
	t.Helper()
	order, safe := s.order(l)
	wantRight(t, l, slowRight(l))
	wantOrder(t, l, order, safe)
	for who := range l {
		for _, zone := range zones {
			wantMay(t, l, who, zone, s.may(l, who, zone))
		}
	}
}

// P8.1

func TestRightOfNothing(t *testing.T) {
	for _, l := range [][]api.Claim{nil, {}, {{}}, {claim(list(), list())}, make([]api.Claim, 8)} {
		wantRight(t, l, true)
	}
}

func TestRightUpToEightClaims(t *testing.T) {
	for many := range 20 {
		wantRight(t, make([]api.Claim, many), many <= 8)
		wantRight(t, chain(many), many <= 8)
	}
	wantWrong(t, make([]api.Claim, 9))
	wantWrong(t, chain(9))
	wantWrong(t, make([]api.Claim, 1000))
}

func TestRightAsksForEachNumber(t *testing.T) {
	for zone := range 26 {
		wantRight(t, []api.Claim{claim(list(zone), nil)}, true)
		wantRight(t, []api.Claim{claim(nil, list(zone))}, true)
	}
	for _, n := range outside() {
		for many := 1; many <= 3; many++ {
			for at := range many {
				l := list(1, 2, 3)[:many]
				l[at] = n
				wantWrong(t, []api.Claim{claim(l, nil)})
				wantWrong(t, []api.Claim{claim(nil, l)})
				wantWrong(t, []api.Claim{claim(list(4), l), {}})
				wantWrong(t, []api.Claim{{}, claim(l, list(4))})
				wantWrong(t, crossed(7, 0, claim(l, nil), claim(list(4), nil)))
				wantWrong(t, crossed(7, 0, claim(nil, l), claim(list(4), nil)))
			}
		}
	}
}

func TestRightAsksWhetherTwoHoldAZone(t *testing.T) {
	for zone := range 26 {
		for one := range 8 {
			for other := range one {
				wantWrong(t, crossed(one, other, claim(list(zone), nil), claim(list(zone), nil)))
			}
		}
		other := (zone + 1) % 26
		wantRight(t, crossed(0, 7, claim(list(zone), nil), claim(list(other), nil)), true)
	}
	wantWrong(t, []api.Claim{claim(list(1, 2, 3), nil), claim(list(4, 3), nil)})
	wantWrong(t, []api.Claim{claim(list(1, 2), nil), claim(list(3), nil), claim(list(4, 5, 1), nil)})
}

func TestRightOfWhatMayBeTwice(t *testing.T) {
	wantRight(t, []api.Claim{claim(list(3, 3), nil)}, true)
	wantRight(t, []api.Claim{claim(nil, list(3, 3))}, true)
	wantRight(t, []api.Claim{claim(list(3), list(3))}, true)
	wantRight(t, []api.Claim{claim(nil, list(3)), claim(nil, list(3))}, true)
	wantRight(t, []api.Claim{claim(list(3), nil), claim(nil, list(3))}, true)
	wantRight(t, []api.Claim{claim(list(3, 4, 3), list(5)), claim(list(5), list(3, 5))}, true)
	wantRight(t, full(), true)
	wantRight(t, ring(8), true)
}

func TestRightOfAllShortLists(t *testing.T) {
	var lists [][]int
	numbers := list(-1, 0, 25, 26)
	lists = append(lists, nil)
	for _, n := range numbers {
		lists = append(lists, list(n))
		for _, m := range numbers {
			lists = append(lists, list(n, m))
		}
	}
	for _, hold := range lists {
		for _, need := range lists {
			for _, other := range lists {
				l := []api.Claim{claim(hold, need), claim(other, nil)}
				wantRight(t, l, slowRight(l))
				l = []api.Claim{claim(hold, nil), claim(other, need)}
				wantRight(t, l, slowRight(l))
			}
		}
	}
}

// P8.2

func TestOrderOfTheExamples(t *testing.T) {
	wantOrder(t, []api.Claim{claim(list(1), list(2)), claim(list(2), list(1))}, nil, false)
	wantOrder(t, []api.Claim{claim(list(1), list(2)), claim(list(2), list(3))}, list(1, 0), true)
}

func TestOrderOfNothing(t *testing.T) {
	wantOrder(t, nil, nil, true)
	wantOrder(t, []api.Claim{}, nil, true)
	wantOrder(t, make([]api.Claim, 3), list(0, 1, 2), true)
	wantOrder(t, make([]api.Claim, 8), list(0, 1, 2, 3, 4, 5, 6, 7), true)
}

func TestOneThatIsAloneIsSafe(t *testing.T) {
	for _, hold := range sets(3) {
		for _, need := range sets(3) {
			wantOrder(t, []api.Claim{claim(hold, need)}, list(0), true)
		}
	}
}

func TestWhatOneHoldsItselfIsNotInItsWay(t *testing.T) {
	wantOrder(t, []api.Claim{claim(list(1), list(1)), claim(list(2), list(2))}, list(0, 1), true)
	wantOrder(t, []api.Claim{claim(list(1), list(1, 2)), claim(list(2), list(2))}, list(1, 0), true)
}

func TestWhatSomeNeedAloneIsInNobodysWay(t *testing.T) {
	wantOrder(t, []api.Claim{claim(nil, list(7)), claim(nil, list(7)), claim(list(1), list(7))}, list(0, 1, 2), true)
}

func TestOrderOfChainsAndRings(t *testing.T) {
	for many := 1; many <= 8; many++ {
		var order []int
		for who := range many {
			order = append(list(who), order...)
		}
		wantOrder(t, chain(many), order, true)
		if many > 1 {
			wantOrder(t, ring(many), nil, false)
		}
	}
}

func TestOrderTakesTheLeastFirst(t *testing.T) {
	wantOrder(t, []api.Claim{claim(nil, list(5)), claim(list(5), nil), claim(nil, list(6))}, list(1, 0, 2), true)
	wantOrder(t, []api.Claim{claim(nil, list(9)), {}, {}, claim(list(9), nil), {}}, list(1, 2, 3, 0, 4), true)
	wantOrder(t, []api.Claim{claim(list(0), list(3)), claim(list(1), list(0)), claim(list(2), nil), claim(list(3), nil)}, list(2, 3, 0, 1), true)
	wantOrder(t, full(), list(0, 1, 2, 3, 4, 5, 6, 7), true)
}

func TestSomeThatCanEndDoNotMakeTheOthersSafe(t *testing.T) {
	for at := range 7 {
		l := crossed(at, at+1, claim(list(1), list(2)), claim(list(2), list(1)))
		wantOrder(t, l, nil, false)
	}
	wantOrder(t, append(chain(3), claim(list(4), list(5)), claim(list(5), list(4))), nil, false)
}

func TestOneOfManyNeedsIsEnough(t *testing.T) {
	for zone := range 26 {
		var needs []int
		for other := range 26 {
			needs = append(needs, other)
		}
		wantOrder(t, []api.Claim{claim(nil, needs), claim(list(zone), nil)}, list(1, 0), true)
		wantOrder(t, []api.Claim{claim(list((zone+1)%26), needs), claim(list(zone), list((zone+1)%26))}, nil, false)
		wantOrder(t, crossed(0, 7, claim(nil, list(zone)), claim(list(zone), nil)), list(1, 2, 3, 4, 5, 6, 7, 0), true)
	}
}

func TestAllSmallClaims(t *testing.T) {
	s := slow{}
	for many := range 4 {
		for _, l := range small(many, 2) {
			s.wantLike(t, l, list(0, 1, 2))
		}
	}
	for _, l := range small(2, 3) {
		s.wantLike(t, l, list(0, 1, 2, 3))
	}
}

func TestMixedClaims(t *testing.T) {
	s := slow{}
	var safe, unsafe int
	for _, l := range mixes(800) {
		s.wantLike(t, l, list(0, 3, 7, 12, 25))
		if len(l) < 4 {
			continue
		}
		if Safe(l) {
			safe++
		} else {
			unsafe++
		}
	}
	if safe < 100 || unsafe < 100 {
		t.Errorf("%d safe and %d others are too few", safe, unsafe)
	}
}

// P8.3

func TestMay(t *testing.T) {
	l := []api.Claim{claim(list(0), list(1)), claim(list(2), list(1, 0))}
	wantMay(t, l, 0, 1, true)
	wantMay(t, l, 1, 1, false)
	wantMay(t, l, 1, 9, true)
	wantMay(t, l, 0, 9, true)
}

func TestMayOfWhatIsHeld(t *testing.T) {
	l := []api.Claim{claim(list(0, 1), list(2)), {}, claim(list(25), nil)}
	for who := range l {
		for zone := range api.MaxZones {
			wantMay(t, l, who, zone, zone != 0 && zone != 1 && zone != 25)
		}
	}
	for who := range 8 {
		for zone := range api.MaxZones {
			wantMay(t, full(), who, zone, false)
		}
	}
}

func TestMayOfWrongArguments(t *testing.T) {
	l := []api.Claim{{}, {}, {}}
	for _, n := range outside() {
		wantMay(t, l, n, 3, false)
		wantMay(t, l, 0, n, false)
		wantMay(t, l, n, n, false)
	}
	for who := -10; who < 10; who++ {
		wantMay(t, l, who, 3, who >= 0 && who < 3)
		wantMay(t, make([]api.Claim, 8), who, 3, who >= 0 && who < 8)
		wantMay(t, nil, who, 3, false)
	}
	for zone := -40; zone < 80; zone++ {
		wantMay(t, l, 2, zone, zone >= 0 && zone < 26)
	}
}

func TestMayDoesNotAskWhetherTheZoneIsNeeded(t *testing.T) {
	wantMay(t, []api.Claim{{}}, 0, 5, true)
	wantMay(t, []api.Claim{claim(nil, list(4)), claim(nil, list(4))}, 1, 5, true)
	wantMay(t, []api.Claim{claim(nil, list(5)), {}}, 1, 5, true)
	wantMay(t, []api.Claim{claim(list(4), list(5)), claim(nil, list(4))}, 1, 5, false)
}

func TestMayOfWhatIsNotSafe(t *testing.T) {
	for _, l := range [][]api.Claim{ring(2), ring(3), append(ring(5), api.Claim{})} {
		for who := range l {
			for zone := range api.MaxZones {
				wantMay(t, l, who, zone, false)
			}
		}
	}
}

func TestMayClosesNoRing(t *testing.T) {
	for many := 2; many <= 8; many++ {
		l := chain(many)
		for who := range many {
			// Each one that is ahead of the last waits for the last in the end, that needs this zone.
			wantMay(t, l, who, many, who == many-1)
			wantMay(t, l, who, many+1, true)
		}
	}
}

// P8.4

func TestSafeWithoutOneThatNeedsNothingOfOthersAndTheOtherWayAbout(t *testing.T) {
	asked := 0
	for _, l := range append(mixes(4000), small(3, 2)...) {
		for who, c := range l {
			rest := slices.Delete(copied(l), who, who+1)
			if slices.ContainsFunc(rest, func(o api.Claim) bool {
				return slices.ContainsFunc(o.Hold, func(zone int) bool { return slices.Contains(c.Need, zone) })
			}) {
				continue
			}
			asked++
			order, safe := Order(rest)
			if safe != Safe(l) {
				t.Errorf("%v: safe: %v; without %d: %v", l, Safe(l), who, safe)
			}
			if safe && !slowIsOrder(l, aheadOf(who, order)) {
				t.Errorf("%v: %d is not the first of an order that goes on with %v", l, who, order)
			}
		}
	}
	if asked < 1000 {
		t.Errorf("only %d were asked", asked)
	}
}

// aheadOf is places with one more ahead of them, that was taken out of the list when they were told.
func aheadOf(who int, order []int) []int {
	longer := list(who)
	for _, other := range order {
		if other >= who {
			other++
		}
		longer = append(longer, other)
	}
	return longer
}

// P8.5

func TestWhatIsSafeStaysSafeWithLess(t *testing.T) {
	asked := 0
	for _, l := range append(mixes(4000), small(3, 2)...) {
		if !Safe(l) {
			continue
		}
		for who, c := range l {
			for zone := range api.MaxZones {
				gone := func(n int) bool { return n == zone }
				for _, less := range []api.Claim{
					claim(slices.DeleteFunc(slices.Clone(c.Hold), gone), c.Need),
					claim(c.Hold, slices.DeleteFunc(slices.Clone(c.Need), gone)),
				} {
					if len(less.Hold)+len(less.Need) == len(c.Hold)+len(c.Need) {
						continue
					}
					asked++
					after := copied(l)
					after[who] = less
					if !Safe(after) {
						t.Errorf("%v is safe, but %v is not", l, after)
					}
				}
			}
		}
	}
	if asked < 1000 {
		t.Errorf("only %d were asked", asked)
	}
}

// P8.6

func TestTheFirstMayBeGivenAllThatItNeeds(t *testing.T) {
	asked := 0
	for _, l := range append(mixes(4000), small(3, 2)...) {
		order, safe := Order(l)
		if !safe || len(order) == 0 {
			continue
		}
		first, l := order[0], copied(l)
		for _, zone := range l[first].Need {
			if slices.Contains(l[first].Hold, zone) {
				continue
			}
			asked++
			wantMay(t, l, first, zone, true)
			l = given(l, first, zone)
		}
		if !Safe(l) {
			t.Errorf("%v is not safe any more, since %d has all that it needs", l, first)
		}
	}
	if asked < 1000 {
		t.Errorf("only %d were asked", asked)
	}
}

// Rules 3 to 6

func TestWhatIsHandedInStaysAndIsNotReadBehindItsEnd(t *testing.T) {
	// Behind the lists' ends stands what would make them wrong, or not safe.
	holds, needs := list(1, 2, -1), list(2, 1, 99)
	whole := []api.Claim{
		{Hold: holds[:1], Need: needs[:1]},
		{Hold: list(3, 1)[:1], Need: list(4, 1)[:1]},
		{Hold: list(1), Need: list(26)},
	}
	l, before := whole[:2], copied(whole)
	wantRight(t, l, true)
	wantOrder(t, l, list(0, 1), true)
	wantMay(t, l, 0, 2, true)
	wantMay(t, l, 1, 2, true)
	wantMay(t, l, 2, 2, false)
	if !same(whole, before) || !slices.Equal(holds, list(1, 2, -1)) || !slices.Equal(needs, list(2, 1, 99)) {
		t.Errorf("changed: %v, %v, %v", whole, holds, needs)
	}
}

func TestAnswersAreTheCallers(t *testing.T) {
	l := chain(8)
	order, _ := Order(l)
	other, _ := Order(l)
	order = order[:cap(order)]
	for i := range order {
		order[i] = 99
	}
	if !slices.Equal(other, list(7, 6, 5, 4, 3, 2, 1, 0)) {
		t.Errorf("behind a change of another answer: %v", other)
	}
	wantOrder(t, l, other, true)
}

func TestTheSameCallsAnswerTheSame(t *testing.T) {
	for _, l := range mixes(200) {
		order, safe := Order(l)
		may := May(l, 0, 3)
		wantOrder(t, copied(l), order, safe)
		wantMay(t, copied(l), 0, 3, may)
		wantMay(t, l, 0, 3, may)
		wantOrder(t, l, order, safe)
	}
}
