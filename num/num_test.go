package num_test

import (
	"math"
	"math/big"
	"slices"
	"testing"

	"haulier/api"
	"haulier/num"
)

const inf = api.Inf

type operation struct {
	name  string
	call  func(a, b int) (int, api.Errno)
	whole func(z, a, b *big.Int) *big.Int
}

func operations() []operation {
	return []operation{
		{"Add", num.Add, (*big.Int).Add},
		{"Sub", num.Sub, (*big.Int).Sub},
		{"Mul", num.Mul, (*big.Int).Mul},
	}
}

// want says what P1.1 asks for, by numbers that never wrap round.
func want(o operation, a, b int) (int, api.Errno) {
	limit := big.NewInt(inf)
	x, y := big.NewInt(int64(a)), big.NewInt(int64(b))
	z := o.whole(new(big.Int), x, y)
	for _, n := range []*big.Int{x, y, z} {
		if n.CmpAbs(limit) > 0 {
			return 0, api.ErrOver
		}
	}
	return int(z.Int64()), api.OK
}

// edges are numbers at which something changes, and their neighbours, with both signs.
func edges() []int {
	var l []int
	for _, middle := range []int{0, 7, 1 << 20, 1 << 29, 1 << 30, 1 << 31, 3037000499, 1 << 32, 1 << 40, inf / 3, 1 << 59, inf, 1 << 61, 1 << 62} {
		for by := -2; by <= 2; by++ {
			l = append(l, middle+by, -(middle + by))
		}
	}
	return append(l, math.MinInt, math.MinInt+1, math.MaxInt-1, math.MaxInt)
}

// lcg is a row of numbers that are spread out, the same in each run.
type lcg uint64

func (s *lcg) next() int {
	*s = *s*6364136223846793005 + 1442695040888963407
	n := int(*s)
	return n >> (uint64(*s) >> 33 % 64)
}

// P1.1, P1 (Add, Sub, Mul): at every pair of edges.
func TestOperationsAtEdges(t *testing.T) {
	for _, o := range operations() {
		for _, a := range edges() {
			for _, b := range edges() {
				compare(t, o, a, b)
			}
		}
	}
}

// P1.1: at numbers of every size.
func TestOperationsSpreadOut(t *testing.T) {
	for _, o := range operations() {
		s := lcg(1)
		for range 20000 {
			compare(t, o, s.next(), s.next())
		}
	}
}

func compare(t *testing.T, o operation, a, b int) {
	t.Helper()
	got, err := o.call(a, b)
	wanted, wantedErr := want(o, a, b)
	if got != wanted || err != wantedErr {
		t.Errorf("%s(%d, %d): %d, %d; want %d, %d", o.name, a, b, got, err, wanted, wantedErr)
	}
}

// P1.1: written out, so that it does not hang on another way to reckon.
func TestOperationsWrittenOut(t *testing.T) {
	add, sub, mul := num.Add, num.Sub, num.Mul
	for _, c := range []struct {
		name   string
		call   func(a, b int) (int, api.Errno)
		a, b   int
		result int
		err    api.Errno
	}{
		{"Add", add, 1, 2, 3, api.OK},
		{"Add", add, inf, 0, inf, api.OK},
		{"Add", add, inf - 1, 1, inf, api.OK},
		{"Add", add, inf, 1, 0, api.ErrOver},
		{"Add", add, 1, inf, 0, api.ErrOver},
		{"Add", add, inf, inf, 0, api.ErrOver},
		{"Add", add, inf, -inf, 0, api.OK},
		{"Add", add, -inf, 0, -inf, api.OK},
		{"Add", add, 1 - inf, -1, -inf, api.OK},
		{"Add", add, -inf, -1, 0, api.ErrOver},
		{"Add", add, inf + 1, -1, 0, api.ErrOver},
		{"Add", add, -1, inf + 1, 0, api.ErrOver},
		{"Add", add, -inf - 1, 1, 0, api.ErrOver},
		{"Add", add, 1, -inf - 1, 0, api.ErrOver},
		{"Add", add, math.MinInt, math.MinInt, 0, api.ErrOver},
		{"Add", add, math.MinInt, math.MaxInt, 0, api.ErrOver},
		{"Add", add, math.MaxInt, math.MaxInt, 0, api.ErrOver},
		{"Sub", sub, 5, 2, 3, api.OK},
		{"Sub", sub, 2, 5, -3, api.OK},
		{"Sub", sub, inf, inf, 0, api.OK},
		{"Sub", sub, -inf, -inf, 0, api.OK},
		{"Sub", sub, 0, inf, -inf, api.OK},
		{"Sub", sub, 0, -inf, inf, api.OK},
		{"Sub", sub, 1, -inf, 0, api.ErrOver},
		{"Sub", sub, -1, inf, 0, api.ErrOver},
		{"Sub", sub, inf, -1, 0, api.ErrOver},
		{"Sub", sub, -inf, 1, 0, api.ErrOver},
		{"Sub", sub, inf + 1, inf + 1, 0, api.ErrOver},
		{"Sub", sub, inf + 1, 1, 0, api.ErrOver},
		{"Sub", sub, 1, inf + 1, 0, api.ErrOver},
		{"Sub", sub, -1, -inf - 1, 0, api.ErrOver},
		{"Sub", sub, -inf - 1, -1, 0, api.ErrOver},
		{"Sub", sub, math.MinInt, math.MinInt, 0, api.ErrOver},
		{"Sub", sub, 0, math.MinInt, 0, api.ErrOver},
		{"Mul", mul, 6, -7, -42, api.OK},
		{"Mul", mul, 1 << 30, 1 << 30, inf, api.OK},
		{"Mul", mul, -1 << 30, 1 << 30, -inf, api.OK},
		{"Mul", mul, -1 << 30, -1 << 30, inf, api.OK},
		{"Mul", mul, 1<<30 + 1, 1<<30 - 1, inf - 1, api.OK},
		{"Mul", mul, 1 << 30, 1<<30 + 1, 0, api.ErrOver},
		{"Mul", mul, 1 << 30, 1 << 31, 0, api.ErrOver},
		{"Mul", mul, 1 << 32, 1 << 32, 0, api.ErrOver},
		{"Mul", mul, 1 << 60, 1 << 60, 0, api.ErrOver},
		{"Mul", mul, -1 << 31, 1 << 30, 0, api.ErrOver},
		{"Mul", mul, inf, 1, inf, api.OK},
		{"Mul", mul, inf, -1, -inf, api.OK},
		{"Mul", mul, -inf, -1, inf, api.OK},
		{"Mul", mul, 0, inf, 0, api.OK},
		{"Mul", mul, -inf, 0, 0, api.OK},
		{"Mul", mul, inf, 2, 0, api.ErrOver},
		{"Mul", mul, 0, inf + 1, 0, api.ErrOver},
		{"Mul", mul, inf + 1, 0, 0, api.ErrOver},
		{"Mul", mul, 0, -inf - 1, 0, api.ErrOver},
		{"Mul", mul, -inf - 1, 0, 0, api.ErrOver},
		{"Mul", mul, math.MinInt, -1, 0, api.ErrOver},
		{"Mul", mul, -1, math.MinInt, 0, api.ErrOver},
		{"Mul", mul, math.MaxInt, 0, 0, api.ErrOver},
		{"Mul", mul, 0, math.MinInt, 0, api.ErrOver},
	} {
		if got, err := c.call(c.a, c.b); got != c.result || err != c.err {
			t.Errorf("%s(%d, %d): %d, %d; want %d, %d", c.name, c.a, c.b, got, err, c.result, c.err)
		}
	}
}

// P1.2: ordinary costs, the edges, and costs that may not be.
func TestSum(t *testing.T) {
	for _, c := range []struct {
		costs []int
		sum   int
	}{
		{nil, 0},
		{[]int{}, 0},
		{[]int{0}, 0},
		{[]int{5}, 5},
		{[]int{1, 2, 3}, 6},
		{[]int{1, -5, 2}, 3},
		{[]int{-1}, 0},
		{[]int{-1, 4}, 4},
		{[]int{4, -1}, 4},
		{[]int{math.MinInt}, 0},
		{[]int{math.MinInt, math.MinInt, 9}, 9},
		{[]int{-inf, inf}, inf},
		{[]int{inf, -inf}, inf},
		{[]int{inf - 1}, inf - 1},
		{[]int{inf}, inf},
		{[]int{inf + 1}, inf},
		{[]int{inf - 1, 1}, inf},
		{[]int{inf - 2, 1}, inf - 1},
		{[]int{inf - 2, 1, 1}, inf},
		{[]int{inf - 1, 2}, inf},
		{[]int{inf - 1, inf - 1}, inf},
		{[]int{1, inf, 3}, inf},
		{[]int{inf, -1}, inf},
		{[]int{inf - 1, -1, 1}, inf},
		{[]int{math.MaxInt}, inf},
		{[]int{math.MaxInt, math.MaxInt}, inf},
		{[]int{1, math.MaxInt, math.MinInt, 1}, inf},
		{slices.Repeat([]int{inf}, 40), inf},
		{slices.Repeat([]int{math.MaxInt}, 40), inf},
		{slices.Repeat([]int{inf / 16}, 15), inf / 16 * 15},
		{slices.Repeat([]int{inf / 16}, 16), inf},
		{slices.Repeat([]int{1}, 1000), 1000},
	} {
		if got := num.Sum(c.costs...); got != c.sum {
			t.Errorf("Sum(%v): %d, want %d", c.costs, got, c.sum)
		}
	}
}

// R3: what is handed in stays as it was.
func TestSumLeavesItsCosts(t *testing.T) {
	costs := []int{3, -1, math.MaxInt, math.MinInt, 2}
	before := slices.Clone(costs)
	num.Sum(costs...)
	if !slices.Equal(costs, before) {
		t.Errorf("Sum made %v of %v", costs, before)
	}
}

// P1.3: written out.
func TestRoot(t *testing.T) {
	for _, c := range []struct{ n, root int }{
		{math.MinInt, 0}, {math.MinInt + 1, 0}, {-inf - 1, 0}, {-inf, 0}, {-25, 0}, {-1, 0}, {0, 0},
		{1, 1}, {2, 2}, {3, 2}, {4, 2}, {5, 3}, {8, 3}, {9, 3}, {10, 4}, {24, 5}, {25, 5}, {26, 6},
		{200000000, 14143},
		{1<<58 - 1, 1 << 29}, {1 << 58, 1 << 29}, {1<<58 + 1, 1<<29 + 1},
		{(1<<30 - 1) * (1<<30 - 1), 1<<30 - 1}, {(1<<30-1)*(1<<30-1) + 1, 1 << 30},
		{inf - 1, 1 << 30}, {inf, 1 << 30}, {inf + 1, 1 << 30}, {1 << 62, 1 << 30},
		{math.MaxInt - 1, 1 << 30}, {math.MaxInt, 1 << 30},
	} {
		if got := num.Root(c.n); got != c.root {
			t.Errorf("Root(%d): %d, want %d", c.n, got, c.root)
		}
	}
}

// P1.3: all small numbers, counted up.
func TestRootSmall(t *testing.T) {
	root := 0
	for n := range 100000 {
		for root*root < n {
			root++
		}
		if got := num.Root(n); got != root {
			t.Fatalf("Root(%d): %d, want %d", n, got, root)
		}
	}
}

// P1.3: of numbers of every size the square reaches them, and that of one less does not.
func TestRootIsTheLeast(t *testing.T) {
	s := lcg(2)
	for _, n := range append(edges(), spread(&s, 20000)...) {
		root := num.Root(n)
		if n < 1 {
			if root != 0 {
				t.Errorf("Root(%d): %d, want 0", n, root)
			}
			continue
		}
		n = min(n, inf)
		if root < 1 || root > 1<<30 || root*root < n || (root-1)*(root-1) >= n {
			t.Errorf("Root(%d): %d", n, root)
		}
	}
}

func spread(s *lcg, n int) []int {
	var l []int
	for range n {
		l = append(l, s.next())
	}
	return l
}

// P1.4: Add and Sub undo each other.
func TestAddAndSubUndoEachOther(t *testing.T) {
	done := 0
	for _, a := range edges() {
		for _, b := range edges() {
			if sum, err := num.Add(a, b); err == api.OK {
				if back, err := num.Sub(sum, b); back != a || err != api.OK {
					t.Errorf("Sub(Add(%d, %d), %d): %d, %d", a, b, b, back, err)
				}
				done++
			}
			if rest, err := num.Sub(a, b); err == api.OK {
				if back, err := num.Add(rest, b); back != a || err != api.OK {
					t.Errorf("Add(Sub(%d, %d), %d): %d, %d", a, b, b, back, err)
				}
				done++
			}
		}
	}
	if done == 0 {
		t.Error("no two numbers could be added or subtracted")
	}
}

// P1.4: Sum does not ask for the order, and never falls.
func TestSumOrderAndGrowth(t *testing.T) {
	s := lcg(3)
	for range 2000 {
		costs := spread(&s, 1+(s.next()&7))
		whole := num.Sum(costs...)
		for len(costs) > 1 {
			first := costs[0]
			turned := append(slices.Clone(costs[1:]), first)
			if got, again := num.Sum(costs...), num.Sum(turned...); got != again {
				t.Errorf("Sum(%v): %d, but %d turned round", costs, got, again)
			}
			costs = costs[:len(costs)-1]
			less := num.Sum(costs...)
			if less > whole {
				t.Errorf("Sum(%v): %d, but with more %d", costs, less, whole)
			}
			whole = less
		}
	}
	costs := []int{inf - 3, 2, -9, 1}
	slices.Sort(costs)
	if rising, falling := num.Sum(costs...), num.Sum(costs[3], costs[2], costs[1], costs[0]); rising != inf || falling != inf {
		t.Errorf("Sum rising %d, falling %d, want Inf", rising, falling)
	}
}

// P1.4: Root of a square is its root; of the next number it is one more.
func TestRootOfSquares(t *testing.T) {
	check := func(root int) {
		square := root * root
		if got := num.Root(square); got != root {
			t.Errorf("Root(%d): %d, want %d", square, got, root)
		}
		if root > 1 && num.Root(square-1) != root {
			t.Errorf("Root(%d): %d, want %d", square-1, num.Root(square-1), root)
		}
		if root < 1<<30 && num.Root(square+1) != root+1 {
			t.Errorf("Root(%d): %d, want %d", square+1, num.Root(square+1), root+1)
		}
	}
	for root := range 2000 {
		check(root)
		check(1<<30 - root)
	}
	for bit := 1; bit <= 1<<29; bit <<= 1 {
		check(bit)
		check(bit | 1<<29)
		check(1<<30 - bit)
	}
}
