package gamma_test

import (
	"math"
	"math/rand/v2"
	"slices"
	"testing"

	"intarsia/gamma"
)

// extremes are numbers that are outside of every right shape.
var extremes = []int{math.MinInt, math.MinInt + 1, math.MinInt32, -1 << 32, -65536, -1, 65536, 65537, 1 << 31, 1 << 32, 1 << 62, math.MaxInt - 1, math.MaxInt}

// smallShapes are the shapes of rank 0 to 4 with dimensions from 0 to 4.
func smallShapes() [][]int {
	shapes := [][]int{nil}
	for from, rank := 0, 1; rank <= 4; rank++ {
		shorter := shapes[from:]
		from = len(shapes)
		for _, s := range shorter {
			for n := range 5 {
				shapes = append(shapes, append(slices.Clone(s), n))
			}
		}
	}
	return shapes
}

// largeShapes are right shapes at the limits of rank, dimensions and cells.
func largeShapes() [][]int {
	return [][]int{
		{65536},
		{65535},
		{256, 256},
		{65536, 1},
		{1, 65536},
		{1, 65536, 1},
		{3, 21845},
		{255, 257},
		{16, 16, 16, 16},
		{7, 11, 13, 5, 3},
		slices.Repeat([]int{1}, 16),
		slices.Repeat([]int{2}, 16),
		slices.Concat(slices.Repeat([]int{1}, 15), []int{65536}),
		slices.Concat([]int{65536}, slices.Repeat([]int{1}, 15)),
	}
}

// emptyShapes are right shapes without cells.
func emptyShapes() [][]int {
	return [][]int{
		{0},
		{0, 0},
		{0, 3},
		{3, 0},
		{2, 0, 4},
		{0, 65536, 65536},
		{65536, 65536, 0},
		{65536, 0, 65536, 65536, 65536, 65536},
		make([]int, 16),
		slices.Concat(slices.Repeat([]int{1}, 15), []int{0}),
	}
}

// wrongShapes are shapes that the chapter leaves open.
func wrongShapes() [][]int {
	return [][]int{
		{-1},
		{-1, -1},
		{0, -1},
		{-2, -3},
		{65537},
		{0, 65537},
		{256, 257},
		{65536, 65536, 65536, 65536},
		{1 << 32, 1 << 32},
		{math.MinInt},
		{math.MaxInt},
		{math.MaxInt, math.MaxInt},
		{math.MaxInt, math.MinInt, 0},
		slices.Repeat([]int{1}, 17),
		slices.Repeat([]int{2}, 17),
		make([]int, 17),
		slices.Repeat([]int{1}, 70000),
	}
}

// follow makes index the next one of a shape in lexicographic order, or reports that there is none.
func follow(s, index []int) bool {
	for axis := len(s) - 1; axis >= 0; axis-- {
		if index[axis]++; index[axis] < s[axis] {
			return true
		}
		index[axis] = 0
	}
	return false
}

// checkPair checks that an index and an offset belong to each other.
func checkPair(t *testing.T, s, index []int, offset int) {
	t.Helper()
	if !gamma.Valid(s, index) {
		t.Fatalf("Valid(%v, %v) = false", s, index)
	}
	if n, ok := gamma.Offset(s, index); n != offset || !ok {
		t.Fatalf("Offset(%v, %v) = %d, %v; want %d", s, index, n, ok, offset)
	}
	if l, ok := gamma.Index(s, offset); !slices.Equal(l, index) || !ok {
		t.Fatalf("Index(%v, %d) = %v, %v; want %v", s, offset, l, ok, index)
	}
}

// checkNoIndex checks that a list is no index of a shape.
func checkNoIndex(t *testing.T, s, list []int) {
	t.Helper()
	if gamma.Valid(s, list) {
		t.Fatalf("Valid(%v, %v) = true", s, list)
	}
	if n, ok := gamma.Offset(s, list); n != 0 || ok {
		t.Fatalf("Offset(%v, %v) = %d, %v; want 0, false", s, list, n, ok)
	}
}

// checkNoOffset checks that a shape has no cell with an offset.
func checkNoOffset(t *testing.T, s []int, offset int) {
	t.Helper()
	if l, ok := gamma.Index(s, offset); len(l) != 0 || ok {
		t.Fatalf("Index(%v, %d) = %v, %v; want nil, false", s, offset, l, ok)
	}
}

func TestPairs(t *testing.T) {
	for _, x := range []struct {
		s, index []int
		offset   int
	}{
		{nil, nil, 0},
		{nil, []int{}, 0},
		{[]int{}, nil, 0},
		{[]int{1}, []int{0}, 0},
		{[]int{4}, []int{0}, 0},
		{[]int{4}, []int{3}, 3},
		{[]int{2, 3}, []int{0, 0}, 0},
		{[]int{2, 3}, []int{0, 2}, 2},
		{[]int{2, 3}, []int{1, 0}, 3},
		{[]int{2, 3}, []int{1, 1}, 4},
		{[]int{2, 3}, []int{1, 2}, 5},
		{[]int{3, 2}, []int{1, 1}, 3},
		{[]int{2, 3, 4}, []int{1, 0, 2}, 14},
		{[]int{2, 3, 4}, []int{0, 2, 1}, 9},
		{[]int{2, 3, 4}, []int{1, 2, 3}, 23},
		{[]int{1, 5, 1}, []int{0, 3, 0}, 3},
		{[]int{5, 1, 1}, []int{4, 0, 0}, 4},
		{[]int{65536}, []int{65535}, 65535},
		{[]int{256, 256}, []int{255, 255}, 65535},
		{[]int{256, 256}, []int{255, 0}, 65280},
		{[]int{1, 65536}, []int{0, 65535}, 65535},
		{[]int{65536, 1}, []int{65535, 0}, 65535},
		{slices.Repeat([]int{1}, 16), make([]int, 16), 0},
		{slices.Repeat([]int{2}, 16), slices.Repeat([]int{1}, 16), 65535},
		{slices.Repeat([]int{2}, 16), slices.Repeat([]int{1, 0}, 8), 0xaaaa},
	} {
		checkPair(t, x.s, x.index, x.offset)
	}
}

// Indices in lexicographic order have the offsets from 0 to the number of cells less 1.
func TestAllIndicesInOrder(t *testing.T) {
	for _, s := range append(smallShapes(), largeShapes()...) {
		cells := 1
		for _, n := range s {
			cells *= n
		}
		checkNoOffset(t, s, cells)
		checkNoOffset(t, s, cells+1)
		for _, offset := range extremes {
			checkNoOffset(t, s, offset)
		}
		if cells == 0 {
			continue
		}
		index := make([]int, len(s))
		for offset := range cells {
			checkPair(t, s, index, offset)
			if more := follow(s, index); more != (offset < cells-1) {
				t.Fatalf("shape %v: another index is %v after the offset %d", s, more, offset)
			}
		}
	}
}

func TestListsThatAreNoIndex(t *testing.T) {
	for _, x := range []struct{ s, list []int }{
		{nil, []int{0}},
		{nil, []int{0, 0}},
		{nil, []int{-1}},
		{[]int{4}, nil},
		{[]int{4}, []int{}},
		{[]int{4}, []int{-1}},
		{[]int{4}, []int{4}},
		{[]int{4}, []int{0, 0}},
		{[]int{1}, []int{1}},
		{[]int{1}, nil},
		{[]int{2, 3}, []int{1}},
		{[]int{2, 3}, []int{1, 2, 0}},
		{[]int{2, 3}, []int{2, 0}},
		// These sums of products are offsets of cells.
		{[]int{2, 3}, []int{0, 3}},
		{[]int{2, 3}, []int{0, 5}},
		{[]int{2, 3}, []int{1, -1}},
		{[]int{2, 3}, []int{2, -6}},
		{[]int{2, 3}, []int{-1, 3}},
		{[]int{2, 3, 4}, []int{0, 3, 0}},
		{[]int{2, 3, 4}, []int{1, -1, 4}},
		// So are these, since they wrap around.
		{[]int{4, 4}, []int{1 << 62, 0}},
		{[]int{4, 4}, []int{1 << 62, 3}},
		{[]int{256, 256}, []int{1 << 56, 1}},
	} {
		checkNoIndex(t, x.s, x.list)
	}
}

func TestListsBesideIndices(t *testing.T) {
	for _, s := range append(smallShapes(), largeShapes()...) {
		if slices.Contains(s, 0) {
			continue
		}
		index := make([]int, len(s))
		for axis, n := range s {
			index[axis] = n - 1
		}
		checkNoIndex(t, s, append(slices.Clone(index), 0))
		for axis, n := range s {
			checkNoIndex(t, s, index[:axis])
			for _, wrong := range append([]int{n, n + 1, -n}, extremes...) {
				list := slices.Clone(index)
				list[axis] = wrong
				checkNoIndex(t, s, list)
			}
		}
	}
}

func TestShapesWithoutCells(t *testing.T) {
	for _, s := range emptyShapes() {
		checkNoIndex(t, s, nil)
		for _, n := range append([]int{0, 1, 2}, extremes...) {
			checkNoIndex(t, s, slices.Repeat([]int{n}, len(s)))
			checkNoIndex(t, s, slices.Repeat([]int{n}, len(s)+1))
			checkNoOffset(t, s, n)
		}
	}
}

func TestDot(t *testing.T) {
	for _, x := range []struct {
		a, b []int
		sum  int
	}{
		{nil, nil, 0},
		{nil, []int{}, 0},
		{nil, []int{1}, 0},
		{[]int{}, []int{1, 2, 3}, 0},
		{[]int{7}, []int{6}, 42},
		{[]int{0}, []int{6}, 0},
		{[]int{-7}, []int{6}, -42},
		{[]int{-7}, []int{-6}, 42},
		{[]int{1, 2, 3}, []int{4, 5, 6}, 32},
		{[]int{1, -2, 3}, []int{4, 5, 6}, 12},
		{[]int{1, -2, 3}, []int{4, 5}, -6},
		{[]int{1, -2, 3}, []int{4}, 4},
		{[]int{12, 4, 1}, []int{1, 2, 3}, 23},
		{[]int{5, 1 << 62, math.MinInt}, []int{3}, 15},
		{[]int{math.MaxInt}, []int{1}, math.MaxInt},
		{[]int{math.MaxInt}, []int{-1}, -math.MaxInt},
		{[]int{math.MinInt}, []int{1}, math.MinInt},
		{[]int{math.MaxInt, math.MinInt}, []int{1, 1}, -1},
		{[]int{math.MinInt, math.MaxInt}, []int{0, 0}, 0},
		{[]int{1 << 31, 1 << 31}, []int{1 << 31, -1 << 31}, 0},
		{[]int{1 << 40, 1 << 40}, []int{1 << 20, 1}, 1<<60 + 1<<40},
		{slices.Repeat([]int{3}, 70000), slices.Repeat([]int{2}, 65536), 393216},
	} {
		if sum := gamma.Dot(x.a, x.b); sum != x.sum {
			t.Errorf("Dot(%v, %v) = %d; want %d", x.a, x.b, sum, x.sum)
		}
		if sum := gamma.Dot(x.b, x.a); sum != x.sum {
			t.Errorf("Dot(%v, %v) = %d; want %d", x.b, x.a, sum, x.sum)
		}
	}
}

func TestDotOfOneNumberEach(t *testing.T) {
	for rank := range 20 {
		list := make([]int, rank)
		for i := range list {
			list[i] = 3*i - 20
		}
		for i := range rank + 2 {
			single, want := make([]int, i+1), 0
			single[i] = 7
			if i < rank {
				want = 7 * list[i]
			}
			if sum := gamma.Dot(list, single); sum != want {
				t.Errorf("Dot(%v, %v) = %d; want %d", list, single, sum, want)
			}
		}
	}
}

// The chapter leaves the results of these open, but the calls return.
func TestOpenArguments(t *testing.T) {
	shapes := slices.Concat(wrongShapes(), emptyShapes(), largeShapes())
	for _, s := range shapes {
		lists := [][]int{nil, {0}, {1, 2}, s, make([]int, len(s)), make([]int, len(s)+1)}
		for _, n := range extremes {
			lists = append(lists, slices.Repeat([]int{n}, len(s)))
			gamma.Index(s, n)
		}
		for offset := range 3 {
			gamma.Index(s, offset)
		}
		for _, list := range lists {
			gamma.Valid(s, list)
			gamma.Offset(s, list)
			gamma.Dot(s, list)
			gamma.Dot(list, s)
		}
	}
	gamma.Dot(extremes, extremes)
	gamma.Dot(extremes, slices.Repeat([]int{math.MinInt}, len(extremes)))
}

func TestRandomOpenArguments(t *testing.T) {
	source := rand.New(rand.NewPCG(3, 3))
	list := func() []int {
		l := make([]int, source.IntN(20))
		for i := range l {
			l[i] = int(source.Uint64()) >> source.IntN(64)
		}
		return l
	}
	for range 20000 {
		s, index := list(), list()
		gamma.Valid(s, index)
		gamma.Offset(s, index)
		gamma.Offset(s, slices.Repeat([]int{0}, len(s)))
		gamma.Index(s, int(source.Uint64())>>source.IntN(64))
		gamma.Dot(s, index)
	}
}

func TestArgumentsStay(t *testing.T) {
	for _, x := range []struct{ s, index []int }{
		{[]int{2, 3, 4, 5, 91, 92}, []int{1, 2, 3, 4, 93, 94}},
		{[]int{2, 3, 4, 5, 91, 92}, []int{1, 3, 3, 4, 93, 94}},
		{[]int{0, 3, 0, 5, 91, 92}, []int{0, 2, 0, 4, 93, 94}},
		{[]int{-1, 70000, 3, 5, 91, 92}, []int{0, 2, 0, 4, 93, 94}},
	} {
		s, index := slices.Clone(x.s), slices.Clone(x.index)
		for rank := range s { // the other numbers are unused capacity
			gamma.Valid(s[:rank], index[:rank])
			gamma.Offset(s[:rank], index[:rank])
			gamma.Offset(s[:rank], index[:rank+1])
			gamma.Dot(s[:rank], index[rank:])
			gamma.Index(s[:rank], 0)
			gamma.Index(s[:rank], 1<<20)
		}
		if !slices.Equal(s, x.s) || !slices.Equal(index, x.index) {
			t.Errorf("the lists are %v and %v; want %v and %v", s, index, x.s, x.index)
		}
	}
}

func TestIndicesAreNew(t *testing.T) {
	for _, s := range [][]int{nil, {5}, {5, 1}, {2, 3, 4}, slices.Repeat([]int{2}, 16)} {
		memory := append(slices.Clone(s), 91, 92)
		argument := memory[:len(s)]
		first, _ := gamma.Index(argument, 0)
		second, _ := gamma.Index(argument, 0)
		for i := range first[:cap(first)] {
			first[:cap(first)][i] = 1000
		}
		if !slices.Equal(memory, append(slices.Clone(s), 91, 92)) {
			t.Errorf("the index shares memory with the shape %v: %v", s, memory)
		}
		if !slices.Equal(second, make([]int, len(s))) {
			t.Errorf("shape %v: two indices share memory: %v", s, second)
		}
		if third, ok := gamma.Index(argument, 0); !slices.Equal(third, make([]int, len(s))) || !ok {
			t.Errorf("shape %v: Index = %v, %v after earlier calls", s, third, ok)
		}
	}
}
