package size_test

import (
	"math"
	"math/big"
	"slices"
	"testing"

	"intarsia/api"
	"intarsia/size"
)

// edges are numbers at, just below and just beyond the limits of int, of int32 and of api.
var edges = []int{
	math.MinInt, math.MinInt + 1, math.MinInt / 2, math.MinInt32 - 1, math.MinInt32, -api.MaxCells - 1, -api.MaxCells, -api.MaxCells + 1, -256, -2, -1,
	0, 1, 2, 3, 255, 256, 257, 32767, 32768, 32769, api.MaxCells - 1, api.MaxCells, api.MaxCells + 1, 2 * api.MaxCells,
	math.MaxInt32, math.MaxInt32 + 1, 3037000499, 3037000500, 1 << 32, 1 << 48, math.MaxInt / 2, math.MaxInt/2 + 1, math.MaxInt - 1, math.MaxInt,
}

// within reports whether n is from 0 to limit.
func within(n *big.Int, limit int) bool {
	return n.Sign() >= 0 && n.Cmp(big.NewInt(int64(limit))) <= 0
}

func TestMul(t *testing.T) {
	for _, x := range []struct {
		a, b, limit int
		n           int
		ok          bool
	}{
		{3, 4, 12, 12, true},
		{3, 4, 13, 12, true},
		{3, 4, 11, 0, false},
		{4, 3, 11, 0, false},
		{0, 0, 0, 0, true},
		{0, 5, 5, 0, true},
		{5, 0, 5, 0, true},
		{0, 6, 5, 0, false},
		{6, 0, 5, 0, false},
		{1, 5, 5, 5, true},
		{1, 1, 0, 0, false},
		{0, 0, -1, 0, false},
		{-1, 0, 9, 0, false},
		{0, -1, 9, 0, false},
		{-2, -3, 9, 0, false},
		{-1, 1, -1, 0, false},
		{256, 256, api.MaxCells, api.MaxCells, true},
		{256, 257, api.MaxCells, 0, false},
		{1 << 32, 1 << 32, math.MaxInt, 0, false},
		{1<<32 + 1, 1 << 32, math.MaxInt, 0, false},
		{math.MaxInt, 1, math.MaxInt, math.MaxInt, true},
		{math.MaxInt, 2, math.MaxInt, 0, false},
		{math.MaxInt, math.MaxInt, math.MaxInt, 0, false},
		{math.MinInt, math.MinInt, math.MaxInt, 0, false},
		{math.MinInt, -1, math.MaxInt, 0, false},
	} {
		if n, ok := size.Mul(x.a, x.b, x.limit); n != x.n || ok != x.ok {
			t.Errorf("Mul(%d, %d, %d) = %d, %v; want %d, %v", x.a, x.b, x.limit, n, ok, x.n, x.ok)
		}
	}
}

func TestMulOfAllEdges(t *testing.T) {
	for _, a := range edges {
		for _, b := range edges {
			exact := new(big.Int).Mul(big.NewInt(int64(a)), big.NewInt(int64(b)))
			for _, limit := range edges {
				want, wantOK := 0, a >= 0 && b >= 0 && a <= limit && b <= limit && within(exact, limit)
				if wantOK {
					want = int(exact.Int64())
				}
				if n, ok := size.Mul(a, b, limit); n != want || ok != wantOK {
					t.Fatalf("Mul(%d, %d, %d) = %d, %v; want %d, %v", a, b, limit, n, ok, want, wantOK)
				}
			}
		}
	}
}

// folded is a list with the results of Product and Sum.
type folded struct {
	l            []int
	product, sum int
	pe, se       api.Errno
}

func foldedLists() []folded {
	const domain, limit = api.ErrDomain, api.ErrLimit
	long := slices.Repeat([]int{2}, 64)
	return []folded{
		{nil, 1, 0, 0, 0},
		{[]int{}, 1, 0, 0, 0},
		{[]int{0}, 0, 0, 0, 0},
		{[]int{7}, 7, 7, 0, 0},
		{[]int{2, 3, 4}, 24, 9, 0, 0},
		{[]int{65536}, 65536, 65536, 0, 0},
		{[]int{65537}, 0, 0, limit, limit},
		{[]int{65535, 1}, 65535, 65536, 0, 0},
		{[]int{1, 65536}, 65536, 0, 0, limit},
		{[]int{65536, 0}, 0, 65536, 0, 0},
		{[]int{32768, 32768}, 0, 65536, limit, 0},
		{[]int{32768, 32769}, 0, 0, limit, limit},
		{[]int{256, 256}, 65536, 512, 0, 0},
		{[]int{256, 257}, 0, 513, limit, 0},
		{[]int{256, 256, 2}, 0, 514, limit, 0},
		{[]int{3, 21845}, 65535, 21848, 0, 0},
		// Parts of a product may be too great where the product is not.
		{[]int{256, 256, 2, 0}, 0, 514, 0, 0},
		{[]int{0, 256, 256, 2}, 0, 514, 0, 0},
		{[]int{256, 257, 0, 256}, 0, 769, 0, 0},
		{[]int{65536, 65536, 0}, 0, 0, 0, limit},
		// A number that is too great is an error also beside a 0.
		{[]int{0, 65537}, 0, 0, limit, limit},
		{[]int{65537, 0}, 0, 0, limit, limit},
		{[]int{math.MaxInt, 0}, 0, 0, limit, limit},
		// A negative number comes before all that is too great.
		{[]int{-1}, 0, 0, domain, domain},
		{[]int{0, -1}, 0, 0, domain, domain},
		{[]int{-1, 0}, 0, 0, domain, domain},
		{[]int{-2, -3}, 0, 0, domain, domain},
		{[]int{2, -1}, 0, 0, domain, domain},
		{[]int{65537, -1}, 0, 0, domain, domain},
		{[]int{-1, 65537}, 0, 0, domain, domain},
		{[]int{65536, 65536, -1}, 0, 0, domain, domain},
		{[]int{math.MinInt}, 0, 0, domain, domain},
		{[]int{math.MinInt, math.MaxInt}, 0, 0, domain, domain},
		{[]int{math.MaxInt, math.MinInt, 0}, 0, 0, domain, domain},
		// These wrap around to right numbers.
		{[]int{1 << 32, 1 << 32}, 0, 0, limit, limit},
		{[]int{65536, 65536, 65536, 65536}, 0, 0, limit, limit},
		{[]int{65536, 65536, 65536, 65536, 3}, 0, 0, limit, limit},
		{[]int{math.MaxInt, math.MaxInt, 2}, 0, 0, limit, limit},
		{[]int{1 << 62, 1 << 62, 1 << 62, 1 << 62}, 0, 0, limit, limit},
		{long, 0, 128, limit, 0},
		{append(slices.Clone(long), 0), 0, 128, 0, 0},
		{append(slices.Clone(long), 3), 0, 131, limit, 0},
		{slices.Repeat([]int{1}, 65536), 1, 65536, 0, 0},
		{slices.Repeat([]int{1}, 65537), 1, 0, 0, limit},
		{slices.Repeat([]int{0}, 65537), 0, 0, 0, 0},
	}
}

func TestProduct(t *testing.T) {
	for i, x := range foldedLists() {
		if n, e := size.Product(x.l); n != x.product || e != x.pe {
			t.Errorf("list %d: Product = %d, %d; want %d, %d", i, n, e, x.product, x.pe)
		}
	}
}

func TestSum(t *testing.T) {
	for i, x := range foldedLists() {
		if n, e := size.Sum(x.l...); n != x.sum || e != x.se {
			t.Errorf("list %d: Sum = %d, %d; want %d, %d", i, n, e, x.sum, x.se)
		}
	}
	if n, e := size.Sum(); n != 0 || e != api.OK {
		t.Errorf("Sum() = %d, %d", n, e)
	}
}

// expect returns the result and the error for the numbers of a list and their exact product or sum.
func expect(l []int, exact *big.Int) (int, api.Errno) {
	if slices.ContainsFunc(l, func(n int) bool { return n < 0 }) {
		return 0, api.ErrDomain
	}
	if slices.ContainsFunc(l, func(n int) bool { return n > api.MaxCells }) || !within(exact, api.MaxCells) {
		return 0, api.ErrLimit
	}
	return int(exact.Int64()), api.OK
}

func TestProductAndSumOfAllEdges(t *testing.T) {
	for _, a := range edges {
		for _, b := range edges {
			for _, c := range edges {
				l := []int{a, b, c}
				product, sum := big.NewInt(1), big.NewInt(0)
				for _, n := range l {
					product.Mul(product, big.NewInt(int64(n)))
					sum.Add(sum, big.NewInt(int64(n)))
				}
				want, wantErr := expect(l, product)
				if n, e := size.Product(l); n != want || e != wantErr {
					t.Fatalf("Product(%v) = %d, %d; want %d, %d", l, n, e, want, wantErr)
				}
				want, wantErr = expect(l, sum)
				if n, e := size.Sum(l...); n != want || e != wantErr {
					t.Fatalf("Sum(%v) = %d, %d; want %d, %d", l, n, e, want, wantErr)
				}
			}
		}
	}
}

func TestArgumentsStay(t *testing.T) {
	memory := []int{3, 0, 256, 256, 2, -1, 65537, 9, 9}
	before := slices.Clone(memory)
	for n := range memory {
		size.Product(memory[:n])
		size.Sum(memory[:n]...)
	}
	if !slices.Equal(memory, before) {
		t.Errorf("the list is %v; want %v", memory, before)
	}
}

func TestDimensionAndMagnitude(t *testing.T) {
	const domain, limit = api.ErrDomain, api.ErrLimit
	for _, x := range []struct {
		v      int64
		n      int
		e      api.Errno
		amount int
		ae     api.Errno
	}{
		{0, 0, 0, 0, 0},
		{1, 1, 0, 1, 0},
		{-1, 0, domain, 1, 0},
		{7, 7, 0, 7, 0},
		{-7, 0, domain, 7, 0},
		{65535, 65535, 0, 65535, 0},
		{65536, 65536, 0, 65536, 0},
		{65537, 0, limit, 0, limit},
		{-65535, 0, domain, 65535, 0},
		{-65536, 0, domain, 65536, 0},
		{-65537, 0, domain, 0, limit},
		{1 << 32, 0, limit, 0, limit},
		{1<<32 + 5, 0, limit, 0, limit},
		{-1 << 32, 0, domain, 0, limit},
		{-1<<32 + 5, 0, domain, 0, limit},
		{math.MaxInt64, 0, limit, 0, limit},
		{-math.MaxInt64, 0, domain, 0, limit},
		{math.MinInt64, 0, domain, 0, limit},
	} {
		if n, e := size.Dimension(x.v); n != x.n || e != x.e {
			t.Errorf("Dimension(%d) = %d, %d; want %d, %d", x.v, n, e, x.n, x.e)
		}
		if n, e := size.Magnitude(x.v); n != x.amount || e != x.ae {
			t.Errorf("Magnitude(%d) = %d, %d; want %d, %d", x.v, n, e, x.amount, x.ae)
		}
	}
}

func TestMod(t *testing.T) {
	for _, x := range []struct {
		k    int64
		n    int
		rest int
	}{
		{7, 5, 2},
		{4, 5, 4},
		{5, 5, 0},
		{0, 5, 0},
		{-1, 5, 4},
		{-4, 5, 1},
		{-5, 5, 0},
		{-6, 5, 4},
		{9, 1, 0},
		{-9, 1, 0},
		{9, 0, 0},
		{-9, 0, 0},
		{9, -1, 0},
		{9, -4, 0},
		{-9, -4, 0},
		{math.MinInt64, -1, 0},
		{math.MinInt64, math.MinInt, 0},
		{math.MinInt64, 1, 0},
		{math.MinInt64, 3, 1},
		{math.MinInt64, math.MaxInt, math.MaxInt - 1},
		{math.MaxInt64, math.MaxInt, 0},
		{math.MaxInt64 - 1, math.MaxInt, math.MaxInt - 1},
		{-1, math.MaxInt, math.MaxInt - 1},
		{math.MaxInt64, 1 << 62, 1<<62 - 1},
	} {
		if rest := size.Mod(x.k, x.n); rest != x.rest {
			t.Errorf("Mod(%d, %d) = %d; want %d", x.k, x.n, rest, x.rest)
		}
	}
}

func TestModOfAllEdges(t *testing.T) {
	for _, k := range edges {
		for _, n := range edges {
			want := 0
			if n > 0 { // the Mod of big.Int is never negative
				want = int(new(big.Int).Mod(big.NewInt(int64(k)), big.NewInt(int64(n))).Int64())
			}
			if rest := size.Mod(int64(k), n); rest != want {
				t.Errorf("Mod(%d, %d) = %d; want %d", k, n, rest, want)
			}
		}
	}
}
