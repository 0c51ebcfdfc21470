package inst_test

import (
	"fmt"
	"math"
	"reflect"
	"slices"
	"strings"
	"testing"

	"haulier/api"
	"haulier/inst"
	"haulier/scan"
)

// lcg is a row of numbers that are spread out, the same in each run.
type lcg uint64

func (s *lcg) below(n int) int {
	*s = *s*6364136223846793005 + 1442695040888963407
	// The low bits of such a row repeat soon: only the high ones are taken.
	return int(uint64(*s) >> 33 % uint64(n))
}

func (s *lcg) from(least, most int) int { return least + s.below(most-least+1) }

const exampleText = "1 1 5\n0 0 0 0 100 0\n3 0 2 0 50 1\n0 4 -2 0 90 1\n"

// example is the chapter's: one pair.
func example() api.Instance {
	return api.Instance{Pairs: 1, Cars: 1, Room: 5, Stops: []api.Stop{
		{X: 0, Y: 0, Demand: 0, Ready: 0, Due: 100, Service: 0},
		{X: 3, Y: 0, Demand: 2, Ready: 0, Due: 50, Service: 1},
		{X: 0, Y: 4, Demand: -2, Ready: 0, Due: 90, Service: 1},
	}}
}

// ordinary is an instance of so many pairs, with numbers of each kind away from their edges, also
// where there are too many or too few pairs; below 0 there are no stops at all.
func ordinary(pairs int) api.Instance {
	x := api.Instance{Pairs: pairs, Cars: 3, Room: 40}
	for i := range 2*pairs + 1 {
		s := api.Stop{X: 100 + i, Y: 200 + i, Ready: 300 + i, Due: 400 + i, Service: 5 + i}
		switch {
		case i == 0:
			s.Service = 0
		case i <= pairs:
			s.Demand = 10 + i
		default:
			s.Demand = -(10 + i - pairs)
		}
		x.Stops = append(x.Stops, s)
	}
	return x
}

func clone(x api.Instance) api.Instance {
	x.Stops = slices.Clone(x.Stops)
	return x
}

// identical holds two instances against each other by means that inst has not.
func identical(x, y api.Instance) bool {
	if len(x.Stops) == 0 && len(y.Stops) == 0 {
		// One may be nil, the other one empty.
		x.Stops, y.Stops = nil, nil
	}
	return reflect.DeepEqual(x, y)
}

func isNoughts(x api.Instance) bool {
	return x.Pairs == 0 && x.Cars == 0 && x.Room == 0 && len(x.Stops) == 0
}

// numbers are those of x, each to be changed in its turn, by their names.
func numbers(x *api.Instance) ([]string, []*int) {
	names, l := []string{"Pairs", "Cars", "Room"}, []*int{&x.Pairs, &x.Cars, &x.Room}
	for i := range x.Stops {
		s := &x.Stops[i]
		for k, n := range []*int{&s.X, &s.Y, &s.Demand, &s.Ready, &s.Due, &s.Service} {
			names = append(names, fmt.Sprintf("%s of stop %d", []string{"X", "Y", "Demand", "Ready", "Due", "Service"}[k], i))
			l = append(l, n)
		}
	}
	return names, l
}

// strange are numbers that may stand nowhere but where something below 0 is brought.
func strange() []int {
	return []int{math.MinInt, math.MinInt + 1, -1 << 62, -1<<32 + 1, -1 << 31, -1001, -1, 1<<20 + 1, 1 << 31, 1<<32 + 1, 1 << 60, 1 << 62, math.MaxInt - 1, math.MaxInt}
}

// textOf is what the text of an instance must be, also of one that may not be.
func textOf(x api.Instance) string {
	var text strings.Builder
	fmt.Fprintf(&text, "%d %d %d\n", x.Pairs, x.Cars, x.Room)
	for _, s := range x.Stops {
		fmt.Fprintf(&text, "%d %d %d %d %d %d\n", s.X, s.Y, s.Demand, s.Ready, s.Due, s.Service)
	}
	return text.String()
}

// short is an instance as a fault tells it.
func short(x api.Instance) string {
	if s := fmt.Sprintf("%+v", x); len(s) <= 400 {
		return s
	}
	return fmt.Sprintf("%d pairs, %d cars, room %d, %d stops", x.Pairs, x.Cars, x.Room, len(x.Stops))
}

// mustBe asks for all that follows where x may be: of May, Print and Parse.
func mustBe(t *testing.T, what string, x api.Instance) {
	t.Helper()
	before := clone(x)
	if !inst.May(x) {
		t.Errorf("%s: May: false, want true; of %s", what, short(x))
	}
	text, err := inst.Print(x)
	if err != api.OK || string(text) != textOf(x) {
		t.Errorf("%s: Print: %q, %d; want %q", what, text, err, textOf(x))
	}
	if got, err := inst.Parse([]byte(textOf(x))); err != api.OK || !identical(got, x) {
		t.Errorf("%s: Parse: %s, %d; want %s", what, short(got), err, short(x))
	}
	if !identical(x, before) {
		t.Errorf("%s: it is now %s, it was %s", what, short(x), short(before))
	}
}

// mustNotBe asks for ErrArg, with noughts beside it; of Parse only where scan takes all numbers.
func mustNotBe(t *testing.T, what string, x api.Instance) {
	t.Helper()
	before := clone(x)
	if inst.May(x) {
		t.Errorf("%s: May: true, want false; of %s", what, short(x))
	}
	if text, err := inst.Print(x); err != api.ErrArg || len(text) != 0 {
		t.Errorf("%s: Print: %q, %d; want none, %d", what, text, err, api.ErrArg)
	}
	if _, err := scan.Lines([]byte(textOf(x))); err == api.OK {
		mustRefuse(t, textOf(x), api.ErrArg)
	}
	if !identical(x, before) {
		t.Errorf("%s: it is now %s, it was %s", what, short(x), short(before))
	}
}

func mustParse(t *testing.T, text string, want api.Instance) {
	t.Helper()
	if got, err := inst.Parse([]byte(text)); err != api.OK || !identical(got, want) {
		t.Errorf("Parse(%.300q): %s, %d; want %s", text, short(got), err, short(want))
	}
}

// mustRefuse asks for noughts beside the error, too.
func mustRefuse(t *testing.T, text string, want api.Errno) {
	t.Helper()
	if got, err := inst.Parse([]byte(text)); err != want || !isNoughts(got) {
		t.Errorf("Parse(%.300q): %s, %d; want noughts, %d", text, short(got), err, want)
	}
}

// P5.1, P5.2: the example of the chapter and of the whole.
func TestExample(t *testing.T) {
	mustBe(t, "the example", example())
	mustParse(t, exampleText, example())
	mustParse(t, strings.TrimSuffix(exampleText, "\n"), example())
	if text, err := inst.Print(example()); err != api.OK || string(text) != exampleText {
		t.Errorf("Print: %q, %d; want %q", text, err, exampleText)
	}
}

// P5.1: the least instance there is, and noughts, which have no cars.
func TestNoPairs(t *testing.T) {
	least := api.Instance{Pairs: 0, Cars: 1, Room: 1, Stops: []api.Stop{{}}}
	mustBe(t, "no pairs", least)
	mustParse(t, "0 1 1\n0 0 0 0 0 0", least)
	mustNotBe(t, "noughts", api.Instance{})
	mustNotBe(t, "no stops", api.Instance{Cars: 1, Room: 1})
	mustNotBe(t, "a list without stops", api.Instance{Cars: 1, Room: 1, Stops: []api.Stop{}})
}

// P5.1: from 0 to 16 pairs, each with all of its stops.
func TestPairs(t *testing.T) {
	for pairs := range 17 {
		mustBe(t, fmt.Sprint(pairs, " pairs"), ordinary(pairs))
	}
	for _, pairs := range []int{-2, -1, 17, 18, 100} {
		mustNotBe(t, fmt.Sprint(pairs, " pairs"), ordinary(pairs))
	}
	// As many stops as there were, but another number of pairs.
	for _, pairs := range append(strange(), 0, 1, 3, 15, 16, 17, -3) {
		x := ordinary(2)
		x.Pairs = pairs
		mustNotBe(t, fmt.Sprint(pairs, " pairs that should be 2"), x)
	}
}

// P5.1: numbers of pairs of which twice as many, and one, wrap round to a number of stops that may be.
func TestPairsThatWrapRound(t *testing.T) {
	for stops := range 40 {
		for _, pairs := range []int{math.MinInt, math.MinInt + stops/2, math.MaxInt, -1 << 62, 1 << 62, 1<<62 + stops/2, 1<<32 + stops/2, 1<<31 + stops/2, math.MaxInt - stops} {
			x := ordinary(16)
			x.Pairs, x.Stops = pairs, append(x.Stops, make([]api.Stop, 10)...)[:stops]
			mustNotBe(t, fmt.Sprint(pairs, " pairs, ", stops, " stops"), x)
		}
	}
}

// P5.1: from 1 to 8 cars.
func TestCars(t *testing.T) {
	for _, pairs := range []int{0, 1, 16} {
		for cars := -2; cars <= 20; cars++ {
			x := ordinary(pairs)
			x.Cars = cars
			if cars >= 1 && cars <= 8 {
				mustBe(t, fmt.Sprint(cars, " cars"), x)
			} else {
				mustNotBe(t, fmt.Sprint(cars, " cars"), x)
			}
		}
		for _, cars := range append(strange(), 1000, 999999999999) {
			x := ordinary(pairs)
			x.Cars = cars
			mustNotBe(t, fmt.Sprint(cars, " cars"), x)
		}
	}
}

// P5.1: room from 1 to 1000, also where it is less than what is taken in.
func TestRoom(t *testing.T) {
	for _, pairs := range []int{0, 1, 16} {
		for _, room := range []int{1, 2, 10, 999, 1000} {
			x := ordinary(pairs)
			x.Room = room
			mustBe(t, fmt.Sprint("room ", room), x)
		}
		for _, room := range append(strange(), 0, 1001, 1002, 2000, 999999999999) {
			x := ordinary(pairs)
			x.Room = room
			mustNotBe(t, fmt.Sprint("room ", room), x)
		}
	}
}

// P5.1: one stop for the yard and two for each pair: none too few, none too many.
func TestStops(t *testing.T) {
	for pairs := range 17 {
		whole := ordinary(pairs)
		for n := range 40 {
			x := clone(whole)
			if n < len(x.Stops) {
				x.Stops = x.Stops[:n]
			}
			for len(x.Stops) < n {
				x.Stops = append(x.Stops, x.Stops[len(x.Stops)-1])
			}
			what := fmt.Sprint(pairs, " pairs, ", n, " stops")
			if n == 2*pairs+1 {
				mustBe(t, what, x)
			} else {
				mustNotBe(t, what, x)
			}
		}
		x := clone(whole)
		x.Stops = nil
		mustNotBe(t, fmt.Sprint(pairs, " pairs, no stops"), x)
	}
	many := ordinary(1)
	many.Stops = slices.Repeat(many.Stops, 100000)
	mustNotBe(t, "300000 stops", many)
}

// edge is what a number of a stop may be, and may not.
type edge struct {
	name string
	set  func(s *api.Stop, n int)
	may  []int
	not  []int
}

func edges() []edge {
	ready := func(s *api.Stop, n int) {
		s.Ready = n
		// Due may not be less: it is not what is looked at here.
		s.Due = max(n, s.Due)
	}
	return []edge{
		{"X", func(s *api.Stop, n int) { s.X = n }, []int{0, 1, 9999, 10000}, []int{-2, -1, 10001, 10002, 1 << 20}},
		{"Y", func(s *api.Stop, n int) { s.Y = n }, []int{0, 1, 9999, 10000}, []int{-2, -1, 10001, 10002, 1 << 20}},
		{"Ready", ready, []int{0, 1, 10001, 1<<20 - 1, 1 << 20}, []int{-2, -1, 1<<20 + 1, 1<<20 + 2}},
		{"Due", func(s *api.Stop, n int) { s.Ready, s.Due = 0, n }, []int{0, 1, 10001, 1<<20 - 1, 1 << 20}, []int{-2, -1, 1<<20 + 1, 1<<20 + 2}},
	}
}

// P5.1: X, Y, Ready and Due of the yard and of stops of both kinds, at their edges.
func TestStopsAtEdges(t *testing.T) {
	for _, pairs := range []int{0, 1, 3, 16} {
		for i := range 2*pairs + 1 {
			for _, e := range edges() {
				for _, n := range e.may {
					x := ordinary(pairs)
					e.set(&x.Stops[i], n)
					mustBe(t, fmt.Sprint(e.name, " ", n, " of stop ", i), x)
				}
				for _, n := range append(strange(), e.not...) {
					x := ordinary(pairs)
					e.set(&x.Stops[i], n)
					mustNotBe(t, fmt.Sprint(e.name, " ", n, " of stop ", i), x)
				}
			}
		}
	}
}

// P5.1: a stop lasts from 0 to 1000; at the yard, 0.
func TestService(t *testing.T) {
	for _, pairs := range []int{0, 1, 3, 16} {
		for i := range 2*pairs + 1 {
			for _, n := range append(strange(), 0, 1, 2, 999, 1000, 1001, 1002) {
				x := ordinary(pairs)
				x.Stops[i].Service = n
				what := fmt.Sprint("Service ", n, " of stop ", i)
				if n == 0 || i > 0 && n >= 1 && n <= 1000 {
					mustBe(t, what, x)
				} else {
					mustNotBe(t, what, x)
				}
			}
		}
	}
}

// P5.1: Due is from Ready on, of each stop its own.
func TestDueFromReady(t *testing.T) {
	for i := range 7 {
		for _, ready := range []int{0, 1, 500, 1<<20 - 1, 1 << 20} {
			for _, more := range []int{0, 1, 2, 1<<20 - ready} {
				x := ordinary(3)
				x.Stops[i].Ready, x.Stops[i].Due = ready, ready+more
				what := fmt.Sprint("stop ", i, " from ", ready, " to ", ready+more)
				if ready+more <= 1<<20 {
					mustBe(t, what, x)
				} else {
					mustNotBe(t, what, x)
				}
			}
			for _, less := range []int{1, 2, ready + 1, math.MaxInt} {
				x := ordinary(3)
				x.Stops[i].Ready, x.Stops[i].Due = ready, ready-less
				mustNotBe(t, fmt.Sprint("stop ", i, " from ", ready, " to ", ready-less), x)
			}
		}
		x := ordinary(3)
		x.Stops[i].Ready, x.Stops[i].Due = 1<<20+1, 1<<20+1
		mustNotBe(t, fmt.Sprint("stop ", i, ", both above 2^20"), x)
		x.Stops[i].Ready, x.Stops[i].Due = -1, -1
		mustNotBe(t, fmt.Sprint("stop ", i, ", both below 0"), x)
	}
}

// P5.1: the yard's Demand is 0.
func TestYardDemand(t *testing.T) {
	for _, pairs := range []int{0, 1, 16} {
		for _, n := range append(strange(), -1000, 1, 2, 1000, 1001) {
			x := ordinary(pairs)
			x.Stops[0].Demand = n
			mustNotBe(t, fmt.Sprint("the yard's Demand ", n), x)
			x.Stops[0].Service = n
			mustNotBe(t, fmt.Sprint("the yard's Demand and Service ", n), x)
		}
	}
}

// P5.1: what is taken in is from 1 to 1000, and just that is brought.
func TestDemand(t *testing.T) {
	for _, pairs := range []int{1, 3, 16} {
		for i := 1; i <= pairs; i++ {
			for _, n := range []int{1, 2, 500, 999, 1000} {
				x := ordinary(pairs)
				x.Stops[i].Demand, x.Stops[pairs+i].Demand = n, -n
				mustBe(t, fmt.Sprint("Demand ", n, " of stop ", i), x)
			}
			for _, n := range append(strange(), 0, 1001, 1002, -2, -10, -1000) {
				x := ordinary(pairs)
				x.Stops[i].Demand, x.Stops[pairs+i].Demand = n, -n
				mustNotBe(t, fmt.Sprint("Demand ", n, " of stop ", i, ", and brought"), x)
			}
			for _, n := range append(strange(), 0, 1, 10+i, 10+i-1, -10-i-1, -10-i+1, -1000) {
				x := ordinary(pairs)
				x.Stops[pairs+i].Demand = n
				mustNotBe(t, fmt.Sprint("Demand ", 10+i, " of stop ", i, ", brought ", n), x)
			}
		}
	}
}

// P5.1: what is taken in at i is brought at n + i, and at no other stop.
func TestDemandsInOrder(t *testing.T) {
	x := ordinary(2)
	x.Stops[3].Demand, x.Stops[4].Demand = x.Stops[4].Demand, x.Stops[3].Demand
	mustNotBe(t, "both brought at the other's stop", x)
	x = ordinary(2)
	x.Stops[1].Demand, x.Stops[2].Demand = x.Stops[2].Demand, x.Stops[1].Demand
	mustNotBe(t, "both taken in at the other's stop", x)
	x = ordinary(2)
	for i := range x.Stops {
		x.Stops[i].Demand = -x.Stops[i].Demand
	}
	mustNotBe(t, "brought ahead of being taken in", x)
	x = ordinary(2)
	for i, n := range []int{0, 7, -7, 8, -8} {
		x.Stops[i].Demand = n
	}
	mustNotBe(t, "pair by pair", x)
	for i, n := range []int{0, 7, 8, -8, -7} {
		x.Stops[i].Demand = n
	}
	mustNotBe(t, "the last one first", x)
	for i, n := range []int{0, 7, 7, -7, -7} {
		x.Stops[i].Demand = n
	}
	mustBe(t, "as much of each", x)
}

// P5.1: one number of any is enough to be wrong.
func TestEachNumberStrange(t *testing.T) {
	for _, pairs := range []int{0, 2, 16} {
		whole := ordinary(pairs)
		names, _ := numbers(&whole)
		for k, name := range names {
			for _, n := range strange() {
				x := clone(whole)
				_, l := numbers(&x)
				*l[k] = n
				mustNotBe(t, fmt.Sprint(name, " ", n, " of ", pairs, " pairs"), x)
			}
		}
	}
}

// may says what the chapter says, sentence by sentence.
func may(x api.Instance) bool {
	n := x.Pairs
	ok := n >= 0 && n <= 16 && x.Cars >= 1 && x.Cars <= 8 && x.Room >= 1 && x.Room <= 1000 && len(x.Stops) == 2*n+1
	for i := 0; ok && i < len(x.Stops); i++ {
		s := x.Stops[i]
		ok = s.X >= 0 && s.X <= 10000 && s.Y >= 0 && s.Y <= 10000 && s.Ready >= 0 && s.Ready <= 1<<20 && s.Due >= s.Ready && s.Due <= 1<<20 && s.Service >= 0 && s.Service <= 1000
		switch {
		case i == 0:
			ok = ok && s.Demand == 0 && s.Service == 0
		case i <= n:
			ok = ok && s.Demand >= 1 && s.Demand <= 1000
		default:
			ok = ok && s.Demand+x.Stops[i-n].Demand == 0
		}
	}
	return ok
}

// spread is an instance that may be, with numbers of all sizes.
func spread(row *lcg) api.Instance {
	x := api.Instance{Pairs: row.below(17), Cars: row.from(1, 8), Room: row.from(1, 1000)}
	for i := range 2*x.Pairs + 1 {
		s := api.Stop{X: row.below(10001), Y: row.below(10001), Ready: row.below(1<<20 + 1), Service: row.below(1001)}
		s.Due = row.from(s.Ready, 1<<20)
		switch {
		case i == 0:
			s.Service = 0
		case i <= x.Pairs:
			s.Demand = row.from(1, 1000)
		default:
			s.Demand = -x.Stops[i-x.Pairs].Demand
		}
		x.Stops = append(x.Stops, s)
	}
	return x
}

// P5.1 to P5.3: instances that are spread out, and such with one number more or less, or another one.
func TestSpreadOut(t *testing.T) {
	row := lcg(1)
	seen := map[bool]int{}
	for turn := range 3000 {
		x := spread(&row)
		if !may(x) {
			t.Fatalf("no instance was made: %s", short(x))
		}
		mustBe(t, fmt.Sprint("turn ", turn), x)
		_, l := numbers(&x)
		n := l[row.below(len(l))]
		switch row.below(4) {
		case 0:
			*n++
		case 1:
			*n--
		case 2:
			*n = row.from(-5, 1<<20+5)
		default:
			*n = 0
		}
		seen[may(x)]++
		if may(x) {
			mustBe(t, fmt.Sprint("turn ", turn, ", changed"), x)
		} else {
			mustNotBe(t, fmt.Sprint("turn ", turn, ", changed"), x)
		}
	}
	if seen[true] < 300 || seen[false] < 300 {
		t.Errorf("too few of one kind: %v", seen)
	}
}

func mustBeSame(t *testing.T, what string, x, y api.Instance, want bool) {
	t.Helper()
	a, b := clone(x), clone(y)
	if got, back := inst.Same(x, y), inst.Same(y, x); got != want || back != want {
		t.Errorf("%s: Same: %t, the other way round %t; want %t; of %s and %s", what, got, back, want, short(x), short(y))
	}
	if !identical(x, a) || !identical(y, b) {
		t.Errorf("%s: Same made %s of %s, %s of %s", what, short(x), short(a), short(y), short(b))
	}
}

// P5.1: instances that are the same, also those that may not be, and lists in other places.
func TestSame(t *testing.T) {
	for _, pairs := range []int{-1, 0, 1, 2, 16, 17, 100} {
		x := ordinary(pairs)
		mustBeSame(t, fmt.Sprint(pairs, " pairs, itself"), x, x, true)
		mustBeSame(t, fmt.Sprint(pairs, " pairs"), x, clone(x), true)
		mustBeSame(t, fmt.Sprint(pairs, " pairs, made again"), x, ordinary(pairs), true)
		roomy := clone(x)
		roomy.Stops = append(roomy.Stops, api.Stop{X: 1})[:len(x.Stops)]
		mustBeSame(t, fmt.Sprint(pairs, " pairs, with room behind them"), x, roomy, true)
	}
	for _, pairs := range []int{0, 1, 2, 16} {
		mustBeSame(t, fmt.Sprint(pairs, " pairs and one more"), ordinary(pairs), ordinary(pairs+1), false)
	}
	mustBeSame(t, "noughts", api.Instance{}, api.Instance{}, true)
	mustBeSame(t, "noughts, and a list without stops", api.Instance{}, api.Instance{Stops: []api.Stop{}}, true)
	mustBeSame(t, "noughts, and a stop of noughts", api.Instance{}, api.Instance{Stops: []api.Stop{{}}}, false)
	mustBeSame(t, "the example and noughts", example(), api.Instance{}, false)
}

// P5.1: two that differ in just one number, each in its turn.
func TestSameButOneNumber(t *testing.T) {
	for _, pairs := range []int{0, 1, 2, 16} {
		whole := ordinary(pairs)
		names, _ := numbers(&whole)
		for k, name := range names {
			x := clone(whole)
			_, l := numbers(&x)
			was := *l[k]
			for _, n := range append(strange(), was+1, was-1, -was, was+1<<32) {
				*l[k] = n
				mustBeSame(t, fmt.Sprint(name, " ", n, ", and ", was), whole, x, n == was)
				mustBeSame(t, fmt.Sprint(name, " ", n, ", itself"), x, clone(x), true)
			}
		}
	}
}

// P5.1: two numbers that have changed their places are others.
func TestSameButTwoNumbers(t *testing.T) {
	whole := ordinary(2)
	names, _ := numbers(&whole)
	for i := range names {
		for k := range i {
			x := clone(whole)
			_, l := numbers(&x)
			*l[i], *l[k] = *l[k], *l[i]
			mustBeSame(t, fmt.Sprint(names[i], ", ", names[k]), whole, x, *l[i] == *l[k])
		}
	}
	x := clone(whole)
	slices.Reverse(x.Stops)
	mustBeSame(t, "stops the other way round", whole, x, false)
}

// P5.1: two that differ in their numbers of stops alone, where those that both have are the same.
func TestSameButStops(t *testing.T) {
	for _, pairs := range []int{0, 1, 3} {
		whole := ordinary(pairs)
		for n := range len(whole.Stops) {
			x := clone(whole)
			x.Stops = x.Stops[:n]
			mustBeSame(t, fmt.Sprint(n, " stops of ", len(whole.Stops)), whole, x, false)
		}
		x := clone(whole)
		x.Stops = append(x.Stops, x.Stops[0])
		mustBeSame(t, "the yard once more", whole, x, false)
		x = clone(whole)
		x.Stops = append(x.Stops, api.Stop{})
		mustBeSame(t, "a stop of noughts more", whole, x, false)
		x = clone(whole)
		x.Stops = nil
		mustBeSame(t, "no stops", whole, x, false)
	}
}

// P5.2: remarks, spaces, noughts ahead of numbers, and lines without numbers, wherever they stand.
func TestParseBetween(t *testing.T) {
	mustParse(t, "# one pair\n\n  01 001   5 # pairs, cars, room\n\n#\n0 0 0 0 100 0#\n   \n  3 -0 2 0 50 1\n0 4 -2 0 90 000000000001   # 7\n\n# 1 2\n", example())
	lines := strings.SplitAfter(exampleText, "\n")
	for _, between := range []string{"\n", " \n", "   \n\n", "#\n", "# 1 1 5\n", " # 0 0 0 0 0\n\n", "#x\xff\x00\n"} {
		mustParse(t, strings.Join(lines, between), example())
		mustParse(t, between+exampleText+between, example())
	}
	mustParse(t, strings.ReplaceAll(exampleText, " ", "   "), example())
	mustParse(t, strings.ReplaceAll(exampleText, "\n", "#1 2 3\n"), example())
	mustParse(t, strings.ReplaceAll(exampleText, "\n", "  \n  "), example())
}

// P5.2: what scan refuses is told as scan tells it: as none, and as too long, ahead of all else.
func TestParseScanErrors(t *testing.T) {
	for _, text := range []string{"x", "-", "1 1 5\n0 0 0 0 100 0\n3 0 2 0 50 1\n0 4 -2 0 90 1x", "1\t1\t5", "0 1 1\r\n0 0 0 0 0 0\r\n", "+0 1 1\n0 0 0 0 0 0", "0 1 1\n0 0 0 0 0 1.0", "0 1 1\n0 0 0 0 0 0\n-", "0 9 1\n0 0 0 0 0 0\n--1", "1234567890123 1 1", "0 1 1\n0 0 0 0 1234567890123 0", "0 1 1\n0 0 0 0 0 0000000000000"} {
		mustRefuse(t, text, api.ErrForm)
	}
	full := exampleText + "#" + strings.Repeat("x", api.MaxText-len(exampleText)-1)
	mustParse(t, full, example())
	mustParse(t, exampleText+strings.Repeat("\n", api.MaxText-len(exampleText)), example())
	for _, text := range []string{full + "x", full + "\n", exampleText + strings.Repeat(" ", api.MaxText+1-len(exampleText)), strings.Repeat("x", api.MaxText+1), strings.Repeat("\n", api.MaxText+1), strings.Repeat("1 ", 5000), "0 9 1\n" + strings.Repeat("0 0 0 0 0 0\n", 400)} {
		mustRefuse(t, text, api.ErrFull)
	}
}

// P5.2: no lines at all, and only such without numbers.
func TestParseNoLines(t *testing.T) {
	if x, err := inst.Parse(nil); err != api.ErrForm || !isNoughts(x) {
		t.Errorf("Parse(nil): %s, %d", short(x), err)
	}
	for _, text := range []string{"", " ", "\n", "\n\n\n", "#", "# 0 1 1\n#0 0 0 0 0 0", "  \n #\n", strings.Repeat("\n", api.MaxText)} {
		mustRefuse(t, text, api.ErrForm)
	}
}

// P5.2: the first line has three numbers and each other one six, whatever they are.
func TestParseForm(t *testing.T) {
	const yard = "0 0 0 0 0 0"
	row := func(n int) string { return strings.TrimSpace(strings.Repeat("0 ", n)) }
	first := []string{"0", "0 1", "0 1 1 1", "0 1 1 1 1", yard, "0 1 1 " + yard, "9 9", "-1 0 0 0"}
	for _, line := range first {
		for _, behind := range []string{"", "\n", "\n" + yard, "\n" + yard + "\n" + yard, "\n0 0 0", "\n-1 0 0 0 0 0", "\n0 1 1\n" + yard} {
			mustRefuse(t, line+behind, api.ErrForm)
			mustRefuse(t, "\n# x\n"+line+behind, api.ErrForm)
		}
	}
	for n := 1; n <= 20; n++ {
		if n == 6 {
			continue
		}
		// Of an instance that may be but for that line, and of such that may not be besides.
		for _, ahead := range []string{"0 1 1\n", "1 1 1\n", "0 0 0\n", "99 99 99999\n", "-1 1 1\n", "0 1 1\n" + yard + "\n", "1 1 1\n" + yard + "\n0 0 1 0 0 0\n", "0 0 1\n-1 0 0 0 0 0\n"} {
			for _, behind := range []string{"", "\n", "\n" + yard, "\n" + yard + "\n0 0 0", "\n0 0 5 9 4 0"} {
				mustRefuse(t, ahead+row(n)+behind, api.ErrForm)
			}
		}
	}
	lines := strings.Split(textOf(ordinary(16)), "\n")
	for i := range 34 {
		less, more := slices.Clone(lines), slices.Clone(lines)
		less[i] = less[i][:strings.LastIndex(less[i], " ")]
		more[i] += " 1"
		mustRefuse(t, strings.Join(less, "\n"), api.ErrForm)
		mustRefuse(t, strings.Join(more, "\n"), api.ErrForm)
	}
}

// P5.2: lines as they must be, of an instance that may not be.
func TestParseMayNotBe(t *testing.T) {
	const yard = "0 0 0 0 9 0"
	for _, text := range []string{
		"0 1 1", "0 1 1\n", "1 1 1\n" + yard, "0 1 1\n" + yard + "\n" + yard, "16 1 1",
		"0 0 1\n" + yard, "0 9 1\n" + yard, "0 -1 1\n" + yard, "0 1 0\n" + yard, "0 1 1001\n" + yard,
		"-1 1 1", "-1 1 1\n" + yard, "999999999999 1 1\n" + yard, "-999999999999 1 1\n" + yard,
		"0 999999999999 1\n" + yard, "0 1 999999999999\n" + yard, "0 1 -999999999999\n" + yard,
		"0 1 1\n-1 0 0 0 9 0", "0 1 1\n0 10001 0 0 9 0", "0 1 1\n0 0 1 0 9 0", "0 1 1\n0 0 0 -1 9 0", "0 1 1\n0 0 0 5 4 0", "0 1 1\n0 0 0 0 1048577 0", "0 1 1\n0 0 0 0 9 1",
		"0 1 1\n999999999999 0 0 0 9 0", "0 1 1\n0 -999999999999 0 0 9 0", "0 1 1\n0 0 999999999999 0 9 0", "0 1 1\n0 0 0 -999999999999 9 0", "0 1 1\n0 0 0 999999999999 999999999999 0", "0 1 1\n0 0 0 0 9 999999999999",
		"1 1 1\n" + yard + "\n0 0 1 0 9 0\n0 0 -2 0 9 0", "1 1 1\n" + yard + "\n0 0 0 0 9 0\n0 0 0 0 9 0", "1 1 1\n" + yard + "\n0 0 -1 0 9 0\n0 0 1 0 9 0",
		"1 1 1\n" + yard + "\n0 0 1001 0 9 0\n0 0 -1001 0 9 0", "1 1 1\n" + yard + "\n0 0 999999999999 0 9 0\n0 0 -999999999999 0 9 0",
	} {
		mustRefuse(t, text, api.ErrArg)
	}
	// As many lines as a text has room for.
	mustRefuse(t, "0 1 1\n"+strings.Repeat("0 0 0 0 0 0\n", 340), api.ErrArg)
	mustParse(t, "1 1 1\n"+yard+"\n0 0 1 0 9 0\n0 0 -1 0 9 0", api.Instance{Pairs: 1, Cars: 1, Room: 1, Stops: []api.Stop{{Due: 9}, {Demand: 1, Due: 9}, {Demand: -1, Due: 9}}})
}

// P5.2: each number of a line comes to its own place.
func TestEachNumberInItsPlace(t *testing.T) {
	mustParse(t, "1 2 3\n11 12 0 13 14 0\n21 22 23 24 25 26\n31 32 -23 33 34 35\n", api.Instance{Pairs: 1, Cars: 2, Room: 3, Stops: []api.Stop{
		{X: 11, Y: 12, Demand: 0, Ready: 13, Due: 14, Service: 0},
		{X: 21, Y: 22, Demand: 23, Ready: 24, Due: 25, Service: 26},
		{X: 31, Y: 32, Demand: -23, Ready: 33, Due: 34, Service: 35},
	}})
}

// P5.3: what is printed is parsed as it was, the greatest text of all among it.
func TestPrintedIsParsed(t *testing.T) {
	greatest := api.Instance{Pairs: 16, Cars: 8, Room: 1000}
	for i := range 33 {
		s := api.Stop{X: 10000, Y: 10000, Demand: 1000, Ready: 1 << 20, Due: 1 << 20, Service: 1000}
		if i == 0 {
			s.Demand, s.Service = 0, 0
		} else if i > 16 {
			s.Demand = -1000
		}
		greatest.Stops = append(greatest.Stops, s)
	}
	for _, x := range []api.Instance{example(), greatest, ordinary(0), ordinary(1), ordinary(16)} {
		text, err := inst.Print(x)
		if err != api.OK || len(text) > api.MaxText {
			t.Fatalf("Print: %d bytes, %d; of %s", len(text), err, short(x))
		}
		y, err := inst.Parse(text)
		if err != api.OK || !inst.Same(x, y) || !identical(x, y) {
			t.Errorf("printed %q of %s, parsed %s, %d", text, short(x), short(y), err)
		}
	}
}

// P5.3: what is parsed is printed as a text that is parsed the same, and printed as that again.
func TestParsedIsPrinted(t *testing.T) {
	row := lcg(2)
	between := []string{" ", "  ", " 0", " 00", " "}
	ends := []string{"\n", " \n", "# x\n", "\n\n", "\n# 1 2\n  "}
	for range 1000 {
		x := spread(&row)
		var text strings.Builder
		for _, line := range strings.Split(strings.TrimSpace(textOf(x)), "\n") {
			for i, word := range strings.Fields(line) {
				gap := between[row.below(len(between))]
				if i == 0 || word[0] == '-' {
					gap = " "
				}
				text.WriteString(gap + word)
			}
			text.WriteString(ends[row.below(len(ends))])
		}
		if text.Len() > api.MaxText {
			continue
		}
		y, err := inst.Parse([]byte(text.String()))
		if err != api.OK || !identical(x, y) {
			t.Fatalf("Parse(%q): %s, %d; want %s", text.String(), short(y), err, short(x))
		}
		printed, err := inst.Print(y)
		if err != api.OK || string(printed) != textOf(x) {
			t.Fatalf("Print: %q, %d; want %q", printed, err, textOf(x))
		}
		if z, err := inst.Parse(printed); err != api.OK || !inst.Same(y, z) {
			t.Fatalf("Parse(%q): %s, %d; want %s", printed, short(z), err, short(y))
		}
	}
}

// P1: texts that are spread out are parsed or refused as the chapter's words have it.
func TestTextsSpreadOut(t *testing.T) {
	row := lcg(3)
	pieces := []string{"0", "1", "0 0 0 0 9 0", "0 0 1 0 9 0", "0 0 -1 0 9 0", "0 1 1", "1 1 1", "\n", "\n", "\n", " ", "#", "-", "x", "10001"}
	seen := map[api.Errno]int{}
	for range 60000 {
		text := ""
		for range row.below(12) {
			text += pieces[row.below(len(pieces))]
		}
		want, wanted := parse([]byte(text))
		seen[wanted]++
		if wanted == api.OK {
			mustParse(t, text, want)
		} else {
			mustRefuse(t, text, wanted)
		}
	}
	if seen[api.OK] < 20 || seen[api.ErrArg] < 200 || seen[api.ErrForm] < 1000 {
		t.Errorf("too few of one kind: %v", seen)
	}
}

// parse says what P5.2 says.
func parse(text []byte) (api.Instance, api.Errno) {
	lines, err := scan.Lines(text)
	if err != api.OK {
		return api.Instance{}, err
	}
	var x api.Instance
	for i, l := range lines {
		switch {
		case i == 0 && len(l) == 3:
			x.Pairs, x.Cars, x.Room = l[0], l[1], l[2]
		case i > 0 && len(l) == 6:
			x.Stops = append(x.Stops, api.Stop{X: l[0], Y: l[1], Demand: l[2], Ready: l[3], Due: l[4], Service: l[5]})
		default:
			return api.Instance{}, api.ErrForm
		}
	}
	if len(lines) == 0 {
		return api.Instance{}, api.ErrForm
	}
	if !may(x) {
		return api.Instance{}, api.ErrArg
	}
	return x, api.OK
}

// R3: a text stays as it was, and what is parsed of it shares nothing with it, nor with another answer.
func TestParseSharesNothing(t *testing.T) {
	room := []byte(exampleText + "789")
	text := room[:len(exampleText)]
	x, err := inst.Parse(text)
	y, again := inst.Parse(text)
	if err != api.OK || again != api.OK || string(room) != exampleText+"789" {
		t.Fatalf("Parse: %d, %d; its text is %q", err, again, room)
	}
	for i := range room {
		room[i] = '9'
	}
	if !identical(x, example()) {
		t.Errorf("a change of the text made the answer %s", short(x))
	}
	stops := x.Stops[:cap(x.Stops)]
	for i := range stops {
		stops[i] = api.Stop{X: 7, Y: 7, Demand: 7, Ready: 7, Due: 7, Service: 7}
	}
	if !identical(y, example()) {
		t.Errorf("a change of one answer made another one %s", short(y))
	}
	mustParse(t, exampleText, example())
}

// R3: an instance stays as it was, behind its stops, too, and its text shares nothing with it, nor with another text.
func TestPrintSharesNothing(t *testing.T) {
	x := example()
	behind := api.Stop{X: 6, Y: 5, Demand: 4, Ready: 3, Due: 2, Service: 1}
	whole := append(x.Stops, behind)
	x.Stops = whole[:3]
	text, err := inst.Print(x)
	other, again := inst.Print(x)
	if err != api.OK || again != api.OK || !inst.May(x) || !inst.Same(x, example()) || whole[3] != behind || !identical(x, example()) {
		t.Fatalf("Print: %d, %d; its stops are %v", err, again, whole)
	}
	for i := range whole {
		whole[i] = api.Stop{}
	}
	if string(text) != exampleText {
		t.Errorf("a change of the stops made the text %q", text)
	}
	room := text[:cap(text)]
	for i := range room {
		room[i] = 'x'
	}
	if string(other) != exampleText {
		t.Errorf("a change of one text made another one %q", other)
	}
	mustBe(t, "the example", example())
}

// R5: no answer hangs on what was asked before.
func TestAskedAgain(t *testing.T) {
	for _, ahead := range []string{"", "x", "0 1 1", textOf(ordinary(16)), strings.Repeat(" ", 5000), "0 1 1\n0 0 0 0 0 0 0"} {
		inst.Parse([]byte(ahead))
		inst.Print(ordinary(17))
		inst.Same(ordinary(3), ordinary(2))
		mustBe(t, "the example", example())
		mustBeSame(t, "the example", example(), example(), true)
		mustNotBe(t, "17 pairs", ordinary(17))
	}
}
