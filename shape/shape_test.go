package shape_test

import (
	"math"
	"math/big"
	"slices"
	"strconv"
	"strings"
	"testing"

	"intarsia/api"
	"intarsia/shape"
)

// known is a shape with what the chapter says of it.
type known struct {
	s       []int
	e       api.Errno
	cells   int
	strides []int
	text    string
}

// ones returns a shape of some rank, all dimensions of which are 1.
func ones(rank int) []int { return slices.Repeat([]int{1}, rank) }

// with returns a copy of s with n as the dimension of an axis.
func with(s []int, axis, n int) []int {
	l := slices.Clone(s)
	l[axis] = n
	return l
}

func rightShapes() []known {
	twos := slices.Repeat([]int{2}, 16)
	powers := make([]int, 16)
	for axis := range powers {
		powers[axis] = 1 << (15 - axis)
	}
	return []known{
		{nil, 0, 1, nil, ""},
		{[]int{}, 0, 1, nil, ""},
		{[]int{0}, 0, 0, []int{0}, "0"},
		{[]int{1}, 0, 1, []int{1}, "1"},
		{[]int{5}, 0, 5, []int{1}, "5"},
		{[]int{65536}, 0, 65536, []int{1}, "65536"},
		{[]int{2, 3}, 0, 6, []int{3, 1}, "2 3"},
		{[]int{3, 2}, 0, 6, []int{2, 1}, "3 2"},
		{[]int{2, 3, 4}, 0, 24, []int{12, 4, 1}, "2 3 4"},
		{[]int{4, 1, 3}, 0, 12, []int{3, 3, 1}, "4 1 3"},
		{[]int{1, 1, 1}, 0, 1, []int{1, 1, 1}, "1 1 1"},
		{[]int{10, 100, 7}, 0, 7000, []int{700, 7, 1}, "10 100 7"},
		{[]int{256, 256}, 0, 65536, []int{256, 1}, "256 256"},
		{[]int{65536, 1}, 0, 65536, []int{1, 1}, "65536 1"},
		{[]int{1, 65536}, 0, 65536, []int{65536, 1}, "1 65536"},
		{ones(16), 0, 1, ones(16), strings.Repeat("1 ", 15) + "1"},
		{twos, 0, 65536, powers, strings.Repeat("2 ", 15) + "2"},
		// Without cells, all strides are 0, and parts of the product may be too great.
		{[]int{0, 3}, 0, 0, []int{0, 0}, "0 3"},
		{[]int{3, 0}, 0, 0, []int{0, 0}, "3 0"},
		{[]int{3, 0, 5}, 0, 0, []int{0, 0, 0}, "3 0 5"},
		{[]int{0, 0}, 0, 0, []int{0, 0}, "0 0"},
		{[]int{0, 65536, 65536}, 0, 0, []int{0, 0, 0}, "0 65536 65536"},
		{[]int{65536, 65536, 0}, 0, 0, []int{0, 0, 0}, "65536 65536 0"},
		{[]int{65536, 0, 65536, 65536, 65536, 65536}, 0, 0, make([]int, 6), "65536 0 65536 65536 65536 65536"},
		{make([]int, 16), 0, 0, make([]int, 16), strings.Repeat("0 ", 15) + "0"},
	}
}

func wrongShapes() []known {
	const domain, limit = api.ErrDomain, api.ErrLimit
	return []known{
		{[]int{65537}, limit, 0, nil, "65537"},
		{[]int{256, 257}, limit, 0, nil, "256 257"},
		{[]int{65536, 2}, limit, 0, nil, "65536 2"},
		{[]int{2, 65536}, limit, 0, nil, "2 65536"},
		{[]int{0, 65537}, limit, 0, nil, "0 65537"},
		{[]int{65537, 0}, limit, 0, nil, "65537 0"},
		{[]int{math.MaxInt}, limit, 0, nil, "9223372036854775807"},
		// The products of these wrap around to right numbers.
		{[]int{65536, 65536, 65536, 65536}, limit, 0, nil, "65536 65536 65536 65536"},
		{[]int{1 << 32, 1 << 32}, limit, 0, nil, "4294967296 4294967296"},
		{[]int{math.MaxInt, math.MaxInt}, limit, 0, nil, "9223372036854775807 9223372036854775807"},
		// The rank is too great, whatever the dimensions are.
		{ones(17), limit, 0, nil, strings.Repeat("1 ", 16) + "1"},
		{make([]int, 17), limit, 0, nil, strings.Repeat("0 ", 16) + "0"},
		{with(ones(17), 16, 0), limit, 0, nil, strings.Repeat("1 ", 16) + "0"},
		{slices.Repeat([]int{2}, 17), limit, 0, nil, strings.Repeat("2 ", 16) + "2"},
		{ones(70000), limit, 0, nil, strings.Repeat("1 ", 69999) + "1"},
		// A negative dimension comes before all that is too great.
		{[]int{-1}, domain, 0, nil, "-1"},
		{[]int{-1, -1}, domain, 0, nil, "-1 -1"},
		{[]int{-2, -3}, domain, 0, nil, "-2 -3"},
		{[]int{0, -1}, domain, 0, nil, "0 -1"},
		{[]int{-1, 0}, domain, 0, nil, "-1 0"},
		{[]int{2, -3, 4}, domain, 0, nil, "2 -3 4"},
		{[]int{-1, 65537}, domain, 0, nil, "-1 65537"},
		{[]int{65537, -1}, domain, 0, nil, "65537 -1"},
		{[]int{256, 257, -1}, domain, 0, nil, "256 257 -1"},
		{[]int{math.MinInt}, domain, 0, nil, "-9223372036854775808"},
		{[]int{math.MaxInt, math.MinInt}, domain, 0, nil, "9223372036854775807 -9223372036854775808"},
		{with(ones(17), 0, -1), domain, 0, nil, "-1" + strings.Repeat(" 1", 16)},
		{with(ones(17), 16, -1), domain, 0, nil, strings.Repeat("1 ", 16) + "-1"},
		{with(make([]int, 17), 16, -1), domain, 0, nil, strings.Repeat("0 ", 16) + "-1"},
	}
}

func allShapes() []known { return append(rightShapes(), wrongShapes()...) }

func TestCheck(t *testing.T) {
	for i, x := range allShapes() {
		if e := shape.Check(x.s); e != x.e {
			t.Errorf("shape %d: Check = %d; want %d", i, e, x.e)
		}
	}
}

func TestCells(t *testing.T) {
	for i, x := range allShapes() {
		if n := shape.Cells(x.s); n != x.cells {
			t.Errorf("shape %d: Cells = %d; want %d", i, n, x.cells)
		}
	}
}

func TestStrides(t *testing.T) {
	for i, x := range rightShapes() {
		if l := shape.Strides(x.s); !slices.Equal(l, x.strides) {
			t.Errorf("shape %d: Strides = %v; want %v", i, l, x.strides)
		}
	}
	for i, x := range wrongShapes() {
		if l := shape.Strides(x.s); len(l) != 0 {
			t.Errorf("wrong shape %d: Strides = %v; want none", i, l)
		}
	}
}

// edges are dimensions at, just below and just beyond the limits of api and of int.
var edges = []int{
	math.MinInt, -65536, -2, -1, 0, 1, 2, 3, 255, 256, 257, 32768, 32769, 65535, 65536, 65537, 1 << 32, 1 << 62, math.MaxInt,
}

// expect returns the error, the cells and the strides of a shape, by exact products.
func expect(s []int) (api.Errno, int, []int) {
	if slices.ContainsFunc(s, func(n int) bool { return n < 0 }) {
		return api.ErrDomain, 0, nil
	}
	most := big.NewInt(api.MaxCells)
	product := exact(s)
	beyond := slices.ContainsFunc(s, func(n int) bool { return n > api.MaxCells })
	if beyond || len(s) > api.MaxRank || product.Cmp(most) > 0 {
		return api.ErrLimit, 0, nil
	}
	strides := make([]int, len(s))
	for axis := range s {
		if product.Sign() > 0 {
			strides[axis] = int(exact(s[axis+1:]).Int64())
		}
	}
	return api.OK, int(product.Int64()), strides
}

func exact(l []int) *big.Int {
	product := big.NewInt(1)
	for _, n := range l {
		product.Mul(product, big.NewInt(int64(n)))
	}
	return product
}

func TestShapesOfAllEdges(t *testing.T) {
	check := func(s ...int) {
		e, cells, strides := expect(s)
		if got := shape.Check(s); got != e {
			t.Fatalf("Check(%v) = %d; want %d", s, got, e)
		}
		if got := shape.Cells(s); got != cells {
			t.Fatalf("Cells(%v) = %d; want %d", s, got, cells)
		}
		if got := shape.Strides(s); !slices.Equal(got, strides) {
			t.Fatalf("Strides(%v) = %v; want %v", s, got, strides)
		}
	}
	for _, a := range edges {
		for _, b := range edges {
			for _, c := range edges {
				check(a, b, c)
				check(a, 1, b, 2, c)
				check(append(ones(13), a, b, c)...)
				check(append(ones(14), a, b, c)...)
			}
		}
	}
}

func TestEqual(t *testing.T) {
	for _, x := range []struct {
		a, b []int
		same bool
	}{
		{nil, nil, true},
		{nil, []int{}, true},
		{[]int{}, []int{}, true},
		{nil, []int{0}, false},
		{nil, []int{1}, false},
		{[]int{1}, []int{1, 1}, false},
		{[]int{0}, []int{0}, true},
		{[]int{2, 3}, []int{2, 3}, true},
		{[]int{2, 3}, []int{3, 2}, false},
		{[]int{2, 3}, []int{2}, false},
		{[]int{2, 3}, []int{3}, false},
		{[]int{2, 3}, []int{2, 3, 0}, false},
		{[]int{2, 3}, []int{2, 4}, false},
		{[]int{2, 3}, []int{1, 3}, false},
		{[]int{2, 3, 4}, []int{2, 3, 4}, true},
		{[]int{2, 3, 4}, []int{2, 0, 4}, false},
		// Shapes with the same cells are not the same, nor those without any.
		{[]int{2, 6}, []int{3, 4}, false},
		{[]int{0, 2}, []int{0, 3}, false},
		{[]int{1}, nil, false},
		// Shapes that are not right are compared as well.
		{[]int{-1, 70000}, []int{-1, 70000}, true},
		{[]int{-1}, []int{1}, false},
		{[]int{1 << 32}, []int{0}, false},
		{[]int{math.MinInt}, []int{math.MinInt}, true},
		{[]int{math.MinInt}, []int{math.MaxInt}, false},
		{ones(17), ones(17), true},
		{ones(17), ones(16), false},
		{ones(17), with(ones(17), 16, 2), false},
	} {
		if same := shape.Equal(x.a, x.b); same != x.same {
			t.Errorf("Equal(%v, %v) = %v; want %v", x.a, x.b, same, x.same)
		}
		if same := shape.Equal(x.b, x.a); same != x.same {
			t.Errorf("Equal(%v, %v) = %v; want %v", x.b, x.a, same, x.same)
		}
	}
}

// An edit is a call of Replace, Insert or Remove, and its result.
type edit struct {
	name    string
	s       []int
	axis, n int
	want    []int
	e       api.Errno
}

func (x edit) call() ([]int, api.Errno) {
	switch x.name {
	case "Replace":
		return shape.Replace(x.s, x.axis, x.n)
	case "Insert":
		return shape.Insert(x.s, x.axis, x.n)
	}
	return shape.Remove(x.s, x.axis)
}

func (x edit) check(t *testing.T) {
	t.Helper()
	l, e := x.call()
	if !slices.Equal(l, x.want) || e != x.e {
		t.Errorf("%s(%v, %d, %d) = %v, %d; want %v, %d", x.name, x.s, x.axis, x.n, l, e, x.want, x.e)
	}
}

func TestEdits(t *testing.T) {
	const rank = api.ErrRank
	for _, x := range []edit{
		{"Replace", []int{2, 3, 4}, 0, 9, []int{9, 3, 4}, 0},
		{"Replace", []int{2, 3, 4}, 1, 9, []int{2, 9, 4}, 0},
		{"Replace", []int{2, 3, 4}, 2, 9, []int{2, 3, 9}, 0},
		{"Replace", []int{2, 3, 4}, 3, 9, nil, rank},
		{"Replace", []int{2, 3, 4}, -1, 9, nil, rank},
		{"Replace", []int{5}, 0, 0, []int{0}, 0},
		{"Replace", []int{5}, 1, 0, nil, rank},
		{"Replace", []int{5}, 0, 5, []int{5}, 0},
		{"Replace", nil, 0, 9, nil, rank},
		{"Replace", nil, -1, 9, nil, rank},
		{"Insert", []int{2, 3, 4}, 0, 9, []int{9, 2, 3, 4}, 0},
		{"Insert", []int{2, 3, 4}, 1, 9, []int{2, 9, 3, 4}, 0},
		{"Insert", []int{2, 3, 4}, 2, 9, []int{2, 3, 9, 4}, 0},
		{"Insert", []int{2, 3, 4}, 3, 9, []int{2, 3, 4, 9}, 0},
		{"Insert", []int{2, 3, 4}, 4, 9, nil, rank},
		{"Insert", []int{2, 3, 4}, -1, 9, nil, rank},
		{"Insert", nil, 0, 9, []int{9}, 0},
		{"Insert", []int{}, 0, 0, []int{0}, 0},
		{"Insert", nil, 1, 9, nil, rank},
		{"Insert", nil, -1, 9, nil, rank},
		{"Remove", []int{2, 3, 4}, 0, 0, []int{3, 4}, 0},
		{"Remove", []int{2, 3, 4}, 1, 0, []int{2, 4}, 0},
		{"Remove", []int{2, 3, 4}, 2, 0, []int{2, 3}, 0},
		{"Remove", []int{2, 3, 4}, 3, 0, nil, rank},
		{"Remove", []int{2, 3, 4}, -1, 0, nil, rank},
		{"Remove", []int{5}, 0, 0, nil, 0},
		{"Remove", []int{5}, 1, 0, nil, rank},
		{"Remove", nil, 0, 0, nil, rank},
		{"Remove", nil, -1, 0, nil, rank},
	} {
		x.check(t)
	}
}

// Edits do not check whether shapes are right, before or after.
func TestEditsOfWrongShapes(t *testing.T) {
	for _, x := range []edit{
		{"Replace", []int{2, 3}, 0, -1, []int{-1, 3}, 0},
		{"Replace", []int{2, 3}, 1, 65537, []int{2, 65537}, 0},
		{"Replace", []int{2, 3}, 1, math.MinInt, []int{2, math.MinInt}, 0},
		{"Replace", []int{-1, 70000}, 0, math.MaxInt, []int{math.MaxInt, 70000}, 0},
		{"Replace", []int{-1, 70000}, 2, 1, nil, api.ErrRank},
		{"Insert", []int{256, 256}, 0, 2, []int{2, 256, 256}, 0},
		{"Insert", []int{2, 3}, 2, -1, []int{2, 3, -1}, 0},
		{"Insert", []int{2, 3}, 2, math.MaxInt, []int{2, 3, math.MaxInt}, 0},
		{"Insert", []int{-1, 70000}, 1, 0, []int{-1, 0, 70000}, 0},
		{"Insert", ones(16), 16, 2, append(ones(16), 2), 0},
		{"Insert", ones(17), 17, 2, append(ones(17), 2), 0},
		{"Insert", ones(17), 18, 2, nil, api.ErrRank},
		{"Remove", []int{-1, 70000}, 0, 0, []int{70000}, 0},
		{"Remove", []int{-1, 70000}, 1, 0, []int{-1}, 0},
		{"Remove", []int{70000, 0, 70000}, 1, 0, []int{70000, 70000}, 0},
		{"Remove", ones(19), 18, 0, ones(18), 0},
		{"Remove", ones(17), 17, 0, nil, api.ErrRank},
	} {
		x.check(t)
	}
}

func TestEditsAtAllAxes(t *testing.T) {
	for rank := range 20 {
		s := make([]int, rank)
		for axis := range s {
			s[axis] = 10 + axis
		}
		for axis := range rank {
			replaced, removed := with(s, axis, 7), append(slices.Clone(s[:axis]), s[axis+1:]...)
			edit{"Replace", s, axis, 7, replaced, 0}.check(t)
			edit{"Remove", s, axis, 0, removed, 0}.check(t)
			edit{"Insert", removed, axis, 10 + axis, s, 0}.check(t)
		}
		edit{"Insert", s, rank, 7, append(slices.Clone(s), 7), 0}.check(t)
		for _, axis := range []int{math.MinInt, math.MinInt + 1, -rank - 2, -rank - 1, -1, rank + 1, rank + 2, 1 << 32, math.MaxInt - 1, math.MaxInt} {
			edit{"Replace", s, axis, 7, nil, api.ErrRank}.check(t)
			edit{"Insert", s, axis, 7, nil, api.ErrRank}.check(t)
			edit{"Remove", s, axis, 0, nil, api.ErrRank}.check(t)
		}
		edit{"Replace", s, rank, 7, nil, api.ErrRank}.check(t)
		edit{"Remove", s, rank, 0, nil, api.ErrRank}.check(t)
	}
}

func TestText(t *testing.T) {
	for i, x := range allShapes() {
		if text := shape.Text(x.s); text != x.text {
			t.Errorf("shape %d: Text = %q; want %q", i, text, x.text)
		}
	}
	for n := -1100; n <= 1100; n++ {
		want := strconv.Itoa(n) + " 0 " + strconv.Itoa(-n)
		if text := shape.Text([]int{n, 0, -n}); text != want {
			t.Errorf("Text = %q; want %q", text, want)
		}
	}
}

// results calls every function for s, and returns the lists that they return.
func results(s []int) [][]int {
	shape.Check(s)
	shape.Cells(s)
	shape.Equal(s, s)
	shape.Text(s)
	l := [][]int{shape.Strides(s)}
	for axis := -1; axis <= len(s)+1; axis++ {
		n := 7
		if axis >= 0 && axis < len(s) {
			n = s[axis] // the list stays the same, but not its memory
		}
		replaced, _ := shape.Replace(s, axis, n)
		inserted, _ := shape.Insert(s, axis, 8)
		removed, _ := shape.Remove(s, axis)
		l = append(l, replaced, inserted, removed)
	}
	return l
}

func TestArgumentsStay(t *testing.T) {
	for _, memory := range [][]int{{2, 3, 4, 5, 91, 92}, {0, 3, 0, 5, 91, 92}, {-1, 70000, 3, 5, 91, 92}} {
		before := slices.Clone(memory)
		for rank := range memory {
			results(memory[:rank]) // the other numbers are unused capacity
			results(memory[rank:])
		}
		if !slices.Equal(memory, before) {
			t.Errorf("the memory is %v; want %v", memory, before)
		}
	}
}

func TestResultsAreNew(t *testing.T) {
	for _, s := range [][]int{nil, {5}, {2, 3, 4}, {0, 3}, {-1, 70000}, ones(16), ones(17)} {
		memory := append(slices.Clone(s), 91, 92)
		argument := memory[:len(s)]
		first := results(argument)
		second := results(argument)
		want := make([][]int, len(second))
		for i, l := range second {
			want[i] = slices.Clone(l)
		}
		for _, l := range first {
			for i := range l[:cap(l)] {
				l[:cap(l)][i] = 1000
			}
		}
		if !slices.Equal(memory, append(slices.Clone(s), 91, 92)) {
			t.Errorf("results share memory with the argument %v: %v", s, memory)
		}
		for i, l := range second {
			if !slices.Equal(l, want[i]) {
				t.Errorf("shape %v: result %d shares memory with an earlier one: %v; want %v", s, i, l, want[i])
			}
		}
		if !slices.EqualFunc(results(argument), want, slices.Equal[[]int]) {
			t.Errorf("shape %v: results are not those of the first calls", s)
		}
	}
}

func TestResultsOfOneCallerAreApart(t *testing.T) {
	s := []int{2, 3, 4}
	lists := results(s)
	want := make([][]int, len(lists))
	for i, l := range lists {
		want[i] = slices.Clone(l)
	}
	for i, l := range lists {
		for k := range l[:cap(l)] {
			l[:cap(l)][k] = 1000
		}
		for k := i + 1; k < len(lists); k++ {
			if !slices.Equal(lists[k], want[k]) {
				t.Fatalf("results %d and %d share memory", i, k)
			}
		}
	}
}
