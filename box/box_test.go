package box_test

import (
	"math"
	"math/rand/v2"
	"slices"
	"testing"

	"intarsia/api"
	"intarsia/box"
)

// extremes are numbers at the ends of their type, and numbers around 0 and the limits.
var extremes = []int{
	math.MinInt, math.MinInt + 1, math.MinInt32, -1 << 32, -65537, -65536, -65535, -2, -1, 0, 1, 2, 65534, 65535, 65536, 65537, 1 << 31, 1 << 32, 1 << 62, math.MaxInt - 1, math.MaxInt,
}

// times returns a list of some rank with the same number for all axes.
func times(n, rank int) []int { return slices.Repeat([]int{n}, rank) }

// of returns the box with copies of two lists.
func of(lo, hi []int) box.Box { return box.Box{Lo: slices.Clone(lo), Hi: slices.Clone(hi)} }

// flat returns the box of rank 1 from lo to hi.
func flat(lo, hi int) box.Box { return of([]int{lo}, []int{hi}) }

// sized is a box with the number of its cells.
type sized struct {
	box.Box
	cells int
}

// big returns boxes at the limits, all of them right and with at most 2^31 cells.
func big() []sized {
	return []sized{
		{flat(0, 65536), 65536},
		{flat(65535, 65536), 1},
		{flat(65536, 65536), 0},
		{of([]int{0, 0}, []int{65536, 32768}), 1 << 31},
		{of([]int{0, 32768}, []int{65536, 65536}), 1 << 31},
		{of([]int{1, 1, 1}, []int{1025, 1025, 1025}), 1 << 30},
		{of(times(0, 16), times(2, 16)), 65536},
		{of(times(0, 16), times(1, 16)), 1},
		{of(times(65535, 16), times(65536, 16)), 1},
		{of(times(3, 16), times(3, 16)), 0},
		// The product of the other axes is far beyond int.
		{of(times(0, 16), append(times(65536, 15), 0)), 0},
		{of(append([]int{7}, times(0, 15)...), append([]int{7}, times(65536, 15)...)), 0},
		{of([]int{0, 9, 0}, []int{65536, 9, 65536}), 0},
	}
}

// rightBox tells by the definition whether a box is right.
func rightBox(b box.Box) bool {
	if len(b.Lo) != len(b.Hi) || len(b.Hi) > 16 {
		return false
	}
	for axis := range b.Hi {
		if !(0 <= b.Lo[axis] && b.Lo[axis] <= b.Hi[axis] && b.Hi[axis] <= 65536) {
			return false
		}
	}
	return true
}

// wrongBoxes are boxes that are not right.
func wrongBoxes() []box.Box {
	return []box.Box{
		of([]int{0}, nil),
		of(nil, []int{0}),
		of([]int{0}, []int{1, 1}),
		of([]int{0, 0}, []int{1}),
		of(times(0, 16), times(1, 17)),
		of(times(0, 17), times(1, 16)),
		of(times(0, 17), times(1, 17)),
		of(times(0, 17), times(0, 17)),
		of(times(0, 18), times(1, 18)),
		flat(1, 0),
		flat(3, 2),
		flat(65536, 65535),
		flat(65537, 65537),
		flat(0, 65537),
		flat(65536, 65537),
		flat(-1, 0),
		flat(-1, 2),
		flat(-1, -1),
		flat(-3, -2),
		flat(0, -1),
		flat(math.MinInt, math.MaxInt),
		flat(math.MaxInt, math.MinInt),
		flat(math.MaxInt, math.MaxInt),
		flat(math.MinInt, math.MinInt),
		flat(1<<32, 1<<32+1),
		of([]int{0, 3}, []int{2, 2}),
		of([]int{3, 0}, []int{2, 2}),
		of([]int{3, 3}, []int{2, 2}),
		of([]int{0, 0}, []int{0, 65537}),
		of([]int{0, 0}, []int{65537, 0}),
		of([]int{0, -1}, []int{1, 1}),
		of([]int{-1, 0}, []int{1, 1}),
		of([]int{0, -1}, []int{0, 1}),
		of(append(times(0, 15), 2), append(times(1, 15), 1)),
	}
}

// small returns the right boxes of a rank with ends up to most.
func small(rank, most int) []box.Box {
	boxes := []box.Box{{}}
	for range rank {
		var longer []box.Box
		for _, b := range boxes {
			for lo := range most + 1 {
				for hi := lo; hi <= most; hi++ {
					longer = append(longer, box.Box{Lo: slices.Concat(b.Lo, []int{lo}), Hi: slices.Concat(b.Hi, []int{hi})})
				}
			}
		}
		boxes = longer
	}
	return boxes
}

// smallRanks returns small boxes for each rank from 0 to 3.
func smallRanks() [][]box.Box {
	return [][]box.Box{small(0, 3), small(1, 5), small(2, 3), small(3, 2)}
}

func smallBoxes() []box.Box { return slices.Concat(smallRanks()...) }

// rightBoxes returns the small boxes and the big ones.
func rightBoxes() []box.Box {
	boxes := smallBoxes()
	for _, x := range big() {
		boxes = append(boxes, x.Box)
	}
	return boxes
}

// lists returns all lists of a rank with numbers from low to high.
func lists(rank, low, high int) [][]int {
	all := [][]int{{}}
	for range rank {
		var longer [][]int
		for _, l := range all {
			for n := low; n <= high; n++ {
				longer = append(longer, slices.Concat(l, []int{n}))
			}
		}
		all = longer
	}
	return all
}

// holds tells by the definition whether a list is a cell of a right box.
func holds(b box.Box, index []int) bool {
	if len(index) != len(b.Lo) {
		return false
	}
	for axis := range index {
		if !(b.Lo[axis] <= index[axis] && index[axis] <= b.Hi[axis]-1) {
			return false
		}
	}
	return true
}

// count returns the number of cells of a small box: those of all lists around it that it holds.
func count(b box.Box) int {
	n := 0
	for _, index := range lists(len(b.Lo), -1, 5) {
		if holds(b, index) {
			n++
		}
	}
	return n
}

func same(a, b box.Box) bool { return slices.Equal(a.Lo, b.Lo) && slices.Equal(a.Hi, b.Hi) }

func sameList(a, b []box.Box) bool { return slices.EqualFunc(a, b, same) }

// zero reports whether a box is the one that comes with a false.
func zero(b box.Box) bool { return len(b.Lo) == 0 && len(b.Hi) == 0 }

func copies(l []box.Box) []box.Box {
	result := make([]box.Box, len(l))
	for i, b := range l {
		result[i] = of(b.Lo, b.Hi)
	}
	return result
}

// spoil changes the lists of a box, and the unused capacity behind them.
func spoil(b box.Box) {
	for _, l := range [][]int{b.Lo, b.Hi} {
		for i := range l[:cap(l)] {
			l[:cap(l)][i] = 1000 + i
		}
	}
}

func TestRight(t *testing.T) {
	for _, b := range rightBoxes() {
		if !box.Right(b) {
			t.Errorf("Right(%v) = false", b)
		}
	}
	for _, b := range wrongBoxes() {
		if box.Right(b) {
			t.Errorf("Right(%v) = true", b)
		}
	}
	for rank := range 20 {
		for _, n := range []int{0, 1, 65536} {
			if got := box.Right(of(times(0, rank), times(n, rank))); got != (rank <= 16) {
				t.Errorf("Right of %d axes from 0 to %d = %v", rank, n, got)
			}
		}
		if box.Right(of(times(0, rank), times(1, rank+1))) || box.Right(of(times(0, rank+1), times(1, rank))) {
			t.Errorf("Right of %d and %d numbers = true", rank, rank+1)
		}
	}
	if !box.Right(box.Box{}) || !box.Right(box.Box{Lo: []int{}}) || !box.Right(box.Box{Hi: []int{}}) {
		t.Error("a box of rank 0 is not right")
	}
}

// Each axis alone makes a box right or not.
func TestRightForEachAxis(t *testing.T) {
	for _, lo := range extremes {
		for _, hi := range extremes {
			for rank := 1; rank <= 3; rank++ {
				for axis := range rank {
					b := of(times(1, rank), times(4, rank))
					b.Lo[axis], b.Hi[axis] = lo, hi
					want := 0 <= lo && lo <= hi && hi <= 65536
					if got := box.Right(b); got != want {
						t.Errorf("Right(%v) = %v", b, got)
					}
				}
			}
		}
	}
}

func TestWhole(t *testing.T) {
	shapes := slices.Concat(lists(0, 0, 0), lists(1, 0, 5), lists(2, 0, 5), lists(3, 0, 3), [][]int{
		nil, {65536}, {0, 65536}, {65536, 65536, 0}, {256, 256}, times(2, 16), times(1, 16), times(0, 16),
	})
	for _, s := range shapes {
		if b := box.Whole(s); !same(b, of(times(0, len(s)), s)) {
			t.Errorf("Whole(%v) = %v", s, b)
		}
	}
	if b := box.Whole([]int{4, 0}); !same(b, of([]int{0, 0}, []int{4, 0})) {
		t.Errorf("Whole(4 0) = %v", b)
	}
}

func TestSize(t *testing.T) {
	for _, b := range smallBoxes() {
		if n := box.Size(b); n != count(b) {
			t.Errorf("Size(%v) = %d; want %d", b, n, count(b))
		}
	}
	for _, x := range big() {
		if n := box.Size(x.Box); n != x.cells {
			t.Errorf("Size(%v) = %d; want %d", x.Box, n, x.cells)
		}
	}
	if n := box.Size(of([]int{0, 1}, []int{2, 4})); n != 6 {
		t.Errorf("Size of 2 times 3 cells = %d", n)
	}
	if n := box.Size(box.Box{}); n != 1 {
		t.Errorf("Size of the box of rank 0 = %d; want 1", n)
	}
}

func TestHas(t *testing.T) {
	for rank, boxes := range smallRanks() {
		indices := lists(rank, -1, 6)
		for _, b := range boxes {
			for _, index := range indices {
				if got := box.Has(b, index); got != holds(b, index) {
					t.Fatalf("Has(%v, %v) = %v", b, index, got)
				}
			}
		}
	}
	if !box.Has(box.Box{}, nil) || !box.Has(box.Box{}, []int{}) {
		t.Error("the box of rank 0 does not have the empty index")
	}
	if b := flat(65535, 65536); !box.Has(b, []int{65535}) || box.Has(b, []int{65536}) || box.Has(b, []int{65534}) {
		t.Error("the last cell is not the only one of its box")
	}
}

func TestListsThatAreNoIndex(t *testing.T) {
	for _, b := range rightBoxes() {
		rank := len(b.Lo)
		wrong := [][]int{append(slices.Clone(b.Lo), 0), times(0, 17), times(1, 40)}
		if rank > 0 {
			wrong = append(wrong, nil, b.Lo[:rank-1], b.Lo[1:], b.Hi, slices.Concat(b.Lo, b.Lo))
		}
		for axis := range rank {
			for _, n := range append([]int{b.Lo[axis] - 1, b.Hi[axis], b.Hi[axis] + 1}, extremes...) {
				if n < b.Lo[axis] || n >= b.Hi[axis] {
					index := slices.Clone(b.Lo)
					index[axis] = n
					wrong = append(wrong, index)
				}
			}
		}
		for _, index := range wrong {
			if box.Has(b, index) {
				t.Errorf("Has(%v, %v) = true", b, index)
			}
		}
	}
}

// common returns the box that the chapter gives for the cells that two small boxes both have, and whether there are any.
func common(a, b box.Box) (box.Box, bool) {
	if len(a.Lo) != len(b.Lo) {
		return box.Box{}, false
	}
	found := false
	for _, index := range lists(len(a.Lo), 0, 5) {
		found = found || holds(a, index) && holds(b, index)
	}
	if !found {
		return box.Box{}, false
	}
	c := of(a.Lo, a.Hi)
	for axis := range c.Lo {
		c.Lo[axis], c.Hi[axis] = max(c.Lo[axis], b.Lo[axis]), min(c.Hi[axis], b.Hi[axis])
	}
	return c, true
}

func checkIntersect(t *testing.T, a, b, want box.Box, ok bool) {
	t.Helper()
	if c, got := box.Intersect(a, b); !same(c, want) || got != ok {
		t.Fatalf("Intersect(%v, %v) = %v, %v; want %v, %v", a, b, c, got, want, ok)
	}
}

func TestIntersect(t *testing.T) {
	for _, boxes := range [][]box.Box{small(0, 3), small(1, 5), small(2, 3), small(3, 1)} {
		for _, a := range boxes {
			for _, b := range boxes {
				want, ok := common(a, b)
				checkIntersect(t, a, b, want, ok)
			}
		}
	}
	for _, x := range []struct {
		a, b, want box.Box
		ok         bool
	}{
		{of([]int{0, 0}, []int{3, 3}), of([]int{1, 1}, []int{2, 3}), of([]int{1, 1}, []int{2, 3}), true},
		{of([]int{0, 4}, []int{3, 9}), of([]int{1, 2}, []int{5, 6}), of([]int{1, 4}, []int{3, 6}), true},
		{of([]int{0, 4}, []int{3, 9}), of([]int{0, 4}, []int{3, 9}), of([]int{0, 4}, []int{3, 9}), true},
		{of([]int{0, 4}, []int{3, 9}), of([]int{3, 4}, []int{5, 9}), box.Box{}, false},
		{of([]int{0, 4}, []int{3, 9}), of([]int{0, 9}, []int{3, 9}), box.Box{}, false},
		{flat(0, 65536), flat(65535, 65536), flat(65535, 65536), true},
		{flat(0, 65536), flat(65536, 65536), box.Box{}, false},
		{flat(0, 65535), flat(65535, 65536), box.Box{}, false},
		{of(times(0, 16), times(2, 16)), of(times(1, 16), times(5, 16)), of(times(1, 16), times(2, 16)), true},
		{of(times(0, 16), times(2, 16)), of(append(times(1, 15), 2), times(5, 16)), box.Box{}, false},
		{box.Box{}, box.Box{}, box.Box{}, true},
	} {
		checkIntersect(t, x.a, x.b, x.want, x.ok)
		checkIntersect(t, x.b, x.a, x.want, x.ok)
	}
}

func TestIntersectOfDifferentRanks(t *testing.T) {
	for i, some := range smallRanks() {
		for k, others := range smallRanks() {
			if i == k {
				continue
			}
			for _, a := range some {
				for _, b := range others[:min(len(others), 40)] {
					checkIntersect(t, a, b, box.Box{}, false)
				}
			}
		}
	}
	checkIntersect(t, of(times(0, 15), times(1, 15)), of(times(0, 16), times(1, 16)), box.Box{}, false)
}

// rest returns the boxes of the chapter for the cells of a that b does not have.
func rest(a, b box.Box) []box.Box {
	if count(a) == 0 {
		return nil
	}
	c, ok := common(a, b)
	if !ok {
		return []box.Box{a}
	}
	var l []box.Box
	for k := range c.Lo {
		for _, ends := range [][2]int{{a.Lo[k], c.Lo[k]}, {c.Hi[k], a.Hi[k]}} {
			if ends[0] < ends[1] {
				l = append(l, of(
					slices.Concat(c.Lo[:k], ends[:1], a.Lo[k+1:]),
					slices.Concat(c.Hi[:k], ends[1:], a.Hi[k+1:])))
			}
		}
	}
	return l
}

func checkMinus(t *testing.T, a, b box.Box, want []box.Box) {
	t.Helper()
	if l := box.Minus(a, b); !sameList(l, want) {
		t.Fatalf("Minus(%v, %v) = %v; want %v", a, b, l, want)
	}
}

func TestMinus(t *testing.T) {
	for _, boxes := range [][]box.Box{small(0, 3), small(1, 5), small(2, 3), small(3, 1)} {
		for _, a := range boxes {
			for _, b := range boxes {
				checkMinus(t, a, b, rest(a, b))
			}
		}
	}
	inner, outer := of([]int{1, 1, 1}, []int{2, 2, 2}), of([]int{0, 0, 0}, []int{3, 3, 3})
	checkMinus(t, outer, inner, []box.Box{
		of([]int{0, 0, 0}, []int{1, 3, 3}), of([]int{2, 0, 0}, []int{3, 3, 3}),
		of([]int{1, 0, 0}, []int{2, 1, 3}), of([]int{1, 2, 0}, []int{2, 3, 3}),
		of([]int{1, 1, 0}, []int{2, 2, 1}), of([]int{1, 1, 2}, []int{2, 2, 3}),
	})
	checkMinus(t, inner, outer, nil)
	checkMinus(t, outer, outer, nil)
}

func TestMinusOfKnownBoxes(t *testing.T) {
	for _, x := range []struct {
		a, b box.Box
		want []box.Box
	}{
		{of([]int{0, 0}, []int{3, 3}), of([]int{1, 1}, []int{2, 3}), []box.Box{
			of([]int{0, 0}, []int{1, 3}), of([]int{2, 0}, []int{3, 3}), of([]int{1, 0}, []int{2, 1}),
		}},
		// b leaves a: only its part in a counts.
		{of([]int{2, 2}, []int{5, 6}), of([]int{3, 0}, []int{9, 4}), []box.Box{
			of([]int{2, 2}, []int{3, 6}), of([]int{3, 4}, []int{5, 6}),
		}},
		{flat(0, 5), flat(1, 4), []box.Box{flat(0, 1), flat(4, 5)}},
		{flat(0, 5), flat(0, 5), nil},
		{flat(0, 5), flat(5, 9), []box.Box{flat(0, 5)}},
		{flat(0, 5), flat(2, 2), []box.Box{flat(0, 5)}},
		{flat(2, 2), flat(0, 5), nil},
		{flat(2, 2), flat(2, 2), nil},
		{flat(2, 2), flat(7, 9), nil},
		{flat(0, 65536), flat(65535, 65536), []box.Box{flat(0, 65535)}},
		{flat(0, 65536), flat(7, 65535), []box.Box{flat(0, 7), flat(65535, 65536)}},
		{of([]int{0, 0}, []int{65536, 32768}), of([]int{0, 0}, []int{1, 1}), []box.Box{
			of([]int{1, 0}, []int{65536, 32768}), of([]int{0, 1}, []int{1, 32768}),
		}},
		{box.Box{}, box.Box{}, nil},
		// Boxes of different ranks have no cells in common.
		{flat(0, 2), of([]int{0, 0}, []int{1, 1}), []box.Box{flat(0, 2)}},
		{of([]int{0, 0}, []int{1, 1}), flat(0, 2), []box.Box{of([]int{0, 0}, []int{1, 1})}},
		{box.Box{}, flat(0, 1), []box.Box{{}}},
		{flat(0, 1), box.Box{}, []box.Box{flat(0, 1)}},
		{flat(1, 1), box.Box{}, nil},
		{of([]int{0, 4}, []int{3, 4}), flat(0, 1), nil},
	} {
		checkMinus(t, x.a, x.b, x.want)
	}
	high := of(times(0, 16), times(2, 16))
	var want []box.Box
	for k := range 16 { // the ranges before the axis are from 1 to 2, and those behind it from 0 to 2
		want = append(want, of(append(times(1, k), times(0, 16-k)...), slices.Concat(times(2, k), []int{1}, times(2, 15-k))))
	}
	checkMinus(t, high, of(times(1, 16), times(2, 16)), want)
}

// Each cell of a is in b or in exactly one of the boxes of Minus, and no other cell is.
func TestCellsOfMinus(t *testing.T) {
	for rank, boxes := range smallRanks() {
		indices := lists(rank, 0, 5)
		for i, a := range boxes {
			for k := i % 3; k < len(boxes); k += 3 {
				l := box.Minus(a, boxes[k])
				for _, index := range indices {
					times, want := 0, 0
					for _, b := range l {
						if holds(b, index) {
							times++
						}
					}
					if holds(a, index) && !holds(boxes[k], index) {
						want = 1
					}
					if times != want {
						t.Fatalf("Minus(%v, %v) = %v has %v %d times", a, boxes[k], l, index, times)
					}
				}
			}
		}
	}
}

func checkShift(t *testing.T, b box.Box, axis, by int, want box.Box, ok bool) {
	t.Helper()
	if got, done := box.Shift(b, axis, by); !same(got, want) || done != ok {
		t.Fatalf("Shift(%v, %d, %d) = %v, %v; want %v, %v", b, axis, by, got, done, want, ok)
	}
}

func TestShift(t *testing.T) {
	for rank, boxes := range smallRanks() {
		for _, b := range boxes {
			for axis := range rank {
				for by := -6; by <= 6; by++ {
					want := of(b.Lo, b.Hi)
					want.Lo[axis] += by
					want.Hi[axis] += by
					if want.Lo[axis] < 0 {
						checkShift(t, b, axis, by, box.Box{}, false)
					} else {
						checkShift(t, b, axis, by, want, true)
					}
				}
			}
		}
	}
	b := of([]int{1, 2}, []int{3, 4})
	checkShift(t, b, 1, -2, of([]int{1, 0}, []int{3, 2}), true)
	checkShift(t, b, 0, 5, of([]int{6, 2}, []int{8, 4}), true)
	checkShift(t, b, 0, 65533, of([]int{65534, 2}, []int{65536, 4}), true)
	checkShift(t, b, 0, 65534, box.Box{}, false)
	checkShift(t, b, 0, 65535, box.Box{}, false)
	checkShift(t, b, 1, 65532, of([]int{1, 65534}, []int{3, 65536}), true)
	checkShift(t, b, 1, 65533, box.Box{}, false)
	checkShift(t, b, 0, -1, of([]int{0, 2}, []int{2, 4}), true)
	checkShift(t, b, 0, -2, box.Box{}, false)
	checkShift(t, flat(65536, 65536), 0, -65536, flat(0, 0), true)
	checkShift(t, flat(0, 0), 0, 65536, flat(65536, 65536), true)
	checkShift(t, flat(0, 0), 0, 65537, box.Box{}, false)
	checkShift(t, flat(0, 65536), 0, 0, flat(0, 65536), true)
	checkShift(t, flat(0, 65536), 0, 1, box.Box{}, false)
	checkShift(t, flat(0, 65536), 0, -1, box.Box{}, false)
	high := of(times(1, 16), times(3, 16))
	checkShift(t, high, 15, 4, of(append(times(1, 15), 5), append(times(3, 15), 7)), true)
}

func TestShiftAlongAnAxisThatIsNone(t *testing.T) {
	for _, b := range rightBoxes() {
		rank := len(b.Lo)
		for _, axis := range append([]int{rank, rank + 1}, extremes...) {
			if axis < 0 || axis >= rank {
				checkShift(t, b, axis, 0, box.Box{}, false)
				checkShift(t, b, axis, 1, box.Box{}, false)
				checkShift(t, b, axis, -1, box.Box{}, false)
			}
		}
	}
}

// The sums of some of these numbers and the ends of a box wrap around.
func TestShiftByGreatNumbers(t *testing.T) {
	for _, lo := range []int{0, 1, 2, 65535, 65536} {
		for _, hi := range []int{0, 1, 2, 65535, 65536} {
			if lo > hi {
				continue
			}
			for _, by := range extremes {
				// Numbers beyond the limits are checked before they are added.
				if by < -65536 || by > 65536 || lo+by < 0 || hi+by > 65536 {
					checkShift(t, flat(lo, hi), 0, by, box.Box{}, false)
				} else {
					checkShift(t, flat(lo, hi), 0, by, flat(lo+by, hi+by), true)
				}
			}
			for _, by := range []int{math.MaxInt - lo, math.MaxInt - hi, math.MinInt - lo + 65537, 1<<32 - lo, -1<<32 - lo, math.MinInt + 1 - hi + 65536} {
				checkShift(t, flat(lo, hi), 0, by, box.Box{}, false)
			}
		}
	}
}

func checkExact(t *testing.T, s []int, l []box.Box, want bool) {
	t.Helper()
	if got := box.Exact(s, l); got != want {
		t.Fatalf("Exact(%v, %v) = %v", s, l[:min(len(l), 20)], got)
	}
}

// exact tells by the definition whether a list of boxes is exact for a small shape.
func exact(s []int, l []box.Box) bool {
	for _, b := range l {
		if !rightBox(b) || len(b.Lo) != len(s) {
			return false
		}
		for axis, n := range s {
			if b.Hi[axis] > n {
				return false
			}
		}
	}
	whole := of(times(0, len(s)), s)
	for _, index := range lists(len(s), 0, 5) {
		times := 0
		for _, b := range l {
			if holds(b, index) {
				times++
			}
		}
		if holds(whole, index) && times != 1 {
			return false
		}
	}
	return true
}

// For small shapes, all lists of up to three boxes are tried: in the shape, and around it.
func TestExactOfAllSmallLists(t *testing.T) {
	for _, x := range []struct {
		s     []int
		boxes []box.Box
	}{
		{nil, slices.Concat(small(0, 0), []box.Box{flat(0, 0), flat(0, 1)})},
		{[]int{0}, slices.Concat(small(1, 2), wrongBoxes()[:2])},
		{[]int{1}, append(small(1, 2), flat(1, 0), flat(-1, 1))},
		{[]int{3}, append(small(1, 4), flat(2, 1), flat(-1, 2), flat(3, 2), box.Box{})},
		{[]int{2, 0}, append(small(2, 2)[:30], flat(0, 0))},
		{[]int{2, 2}, append(small(2, 2), flat(0, 2))},
		{[]int{2, 1}, append(small(2, 2), of([]int{0, 1}, []int{2, 0}))},
	} {
		checkExact(t, x.s, nil, exact(x.s, nil))
		for _, a := range x.boxes {
			checkExact(t, x.s, []box.Box{a}, exact(x.s, []box.Box{a}))
			for _, b := range x.boxes {
				checkExact(t, x.s, []box.Box{a, b}, exact(x.s, []box.Box{a, b}))
				for _, c := range x.boxes {
					checkExact(t, x.s, []box.Box{a, b, c}, exact(x.s, []box.Box{a, b, c}))
				}
			}
		}
	}
}

func TestExactOfKnownBoxes(t *testing.T) {
	quarters := []box.Box{
		of([]int{0, 0}, []int{1, 2}), of([]int{0, 2}, []int{1, 3}), of([]int{1, 0}, []int{2, 2}), of([]int{1, 2}, []int{2, 3}),
	}
	for _, x := range []struct {
		s    []int
		l    []box.Box
		want bool
	}{
		{nil, nil, false},
		{nil, []box.Box{{}}, true},
		{nil, []box.Box{{}, {}}, false},
		{[]int{0}, nil, true},
		{[]int{0}, []box.Box{flat(0, 0), flat(0, 0)}, true},
		{[]int{0}, []box.Box{flat(1, 1)}, false},
		{[]int{0, 5}, []box.Box{of([]int{0, 0}, []int{0, 5})}, true},
		{[]int{0, 5}, []box.Box{of([]int{0, 5}, []int{0, 5})}, true},
		{[]int{0, 5}, []box.Box{of([]int{0, 0}, []int{0, 6})}, false},
		{[]int{0, 5}, []box.Box{of([]int{0, 0}, []int{1, 5})}, false},
		{[]int{0, 65536, 65536}, []box.Box{of([]int{0, 0, 0}, []int{0, 65536, 65536})}, true},
		{[]int{2, 3}, []box.Box{of([]int{0, 0}, []int{2, 3})}, true},
		{[]int{2, 3}, quarters, true},
		{[]int{2, 3}, []box.Box{quarters[3], quarters[1], quarters[0], quarters[2]}, true},
		{[]int{2, 3}, append([]box.Box{of([]int{1, 1}, []int{1, 3})}, quarters...), true},
		{[]int{2, 3}, quarters[1:], false},
		{[]int{2, 3}, quarters[:3], false},
		{[]int{2, 3}, append([]box.Box{quarters[3]}, quarters...), false},
		// As many cells as the shape has, one of them twice.
		{[]int{2, 3}, []box.Box{quarters[0], quarters[1], quarters[2], quarters[1]}, false},
		// Boxes that leave the shape, with the offsets of all cells, or with no cells.
		{[]int{2, 3}, []box.Box{of([]int{0, 0}, []int{1, 4}), of([]int{1, 1}, []int{2, 3})}, false},
		{[]int{2, 3}, []box.Box{of([]int{0, 0}, []int{1, 6})}, false},
		{[]int{2, 3}, []box.Box{of([]int{0, 0}, []int{3, 3})}, false},
		{[]int{2, 3}, append([]box.Box{of([]int{1, 4}, []int{2, 4})}, quarters...), false},
		{[]int{2, 3}, append([]box.Box{of([]int{3, 0}, []int{3, 1})}, quarters...), false},
		{[]int{2, 3}, append(quarters[:4:4], of([]int{0, 3}, []int{0, 4})), false},
		// Boxes of other ranks.
		{[]int{2, 3}, []box.Box{flat(0, 6)}, false},
		{[]int{2, 3}, append(quarters[:4:4], box.Box{}), false},
		{[]int{2, 3}, append(quarters[:4:4], flat(0, 0)), false},
		{[]int{2, 3}, append(quarters[:4:4], of(times(0, 3), times(0, 3))), false},
		{[]int{6}, []box.Box{of([]int{0, 0}, []int{2, 3})}, false},
		{nil, []box.Box{flat(0, 1)}, false},
		{[]int{1}, []box.Box{{}}, false},
	} {
		checkExact(t, x.s, x.l, x.want)
	}
}

// A box that is not right spoils a list that is exact without it.
func TestExactWithWrongBoxes(t *testing.T) {
	for _, b := range wrongBoxes() {
		for _, s := range [][]int{nil, {0}, {3}, {0, 3}, {2, 3}, {65536}, times(1, 16), times(0, 16)} {
			whole := of(times(0, len(s)), s)
			checkExact(t, s, []box.Box{whole}, true)
			checkExact(t, s, []box.Box{whole, b}, false)
			checkExact(t, s, []box.Box{b, whole}, false)
			checkExact(t, s, []box.Box{b}, false)
		}
	}
}

// cut returns boxes with one cell each, for all cells of a right shape of rank 1 to 16.
func cut(s []int) []box.Box {
	l := []box.Box{{}}
	for _, n := range s {
		var longer []box.Box
		for _, b := range l {
			for i := range n {
				longer = append(longer, box.Box{Lo: append(slices.Clone(b.Lo), i), Hi: append(slices.Clone(b.Hi), i+1)})
			}
		}
		l = longer
	}
	return l
}

func TestExactAtTheLimits(t *testing.T) {
	source := rand.New(rand.NewPCG(6, 6))
	for _, s := range [][]int{{65536}, {256, 256}, {1, 65536}, {65536, 1}, {16, 16, 16, 16}, times(2, 16)} {
		checkExact(t, s, []box.Box{of(times(0, len(s)), s)}, true)
		l := cut(s)
		source.Shuffle(len(l), func(i, k int) { l[i], l[k] = l[k], l[i] })
		checkExact(t, s, l, true)
		checkExact(t, s, l[1:], false)
		checkExact(t, s, append(l[1:len(l):len(l)], l[7]), false)
		checkExact(t, s, append(l[:len(l):len(l)], l[7]), false)
		checkExact(t, s, append(l[:len(l):len(l)], of(s, s)), true)
		// So many cells are counted only up to the first one that is there twice.
		whole := of(times(0, len(s)), s)
		checkExact(t, s, slices.Repeat([]box.Box{whole}, 1000), false)
		checkExact(t, s, append(slices.Repeat([]box.Box{of(s, s)}, 100000), whole), true)
	}
	checkExact(t, times(1, 16), []box.Box{of(times(0, 16), times(1, 16))}, true)
	checkExact(t, times(1, 16), []box.Box{of(times(0, 16), times(1, 16)), of(times(0, 16), times(1, 16))}, false)
	checkExact(t, times(1, 16), []box.Box{of(times(1, 16), times(1, 16))}, false)
	checkExact(t, times(0, 16), nil, true)
}

// A shape that is cut by Minus again and again remains exact, until a box is lost, doubled or moved.
func TestExactOfRandomCuts(t *testing.T) {
	source := rand.New(rand.NewPCG(6, 7))
	for range 2000 {
		s := make([]int, 1+source.IntN(4))
		for axis := range s {
			s[axis] = 1 + source.IntN(5)
		}
		l := []box.Box{box.Whole(s)}
		for range source.IntN(4) {
			a := box.Whole(s)
			for axis, n := range s {
				a.Lo[axis] = source.IntN(n)
				a.Hi[axis] = a.Lo[axis] + 1 + source.IntN(n-a.Lo[axis])
			}
			var next []box.Box
			for _, b := range l {
				next = append(next, box.Minus(b, a)...)
				if c, ok := box.Intersect(b, a); ok {
					next = append(next, c)
				}
			}
			l = next
		}
		source.Shuffle(len(l), func(i, k int) { l[i], l[k] = l[k], l[i] })
		checkExact(t, s, l, true)
		checkExact(t, s, l[1:], false)
		checkExact(t, s, append(slices.Clone(l), l[0]), false)
		axis := source.IntN(len(s))
		for _, by := range []int{-1, 1} {
			if moved, ok := box.Shift(l[0], axis, by); ok {
				checkExact(t, s, append([]box.Box{moved}, l[1:]...), false)
			}
		}
	}
}

// results calls every function for two boxes, and returns the boxes that they return.
func results(a, b box.Box) []box.Box {
	box.Right(a)
	box.Size(a)
	box.Has(a, b.Lo)
	box.Has(a, a.Lo)
	box.Exact(a.Hi, []box.Box{a, b})
	box.Exact(b.Hi, box.Minus(b, a))
	l := []box.Box{box.Whole(a.Lo), box.Whole(a.Hi)}
	if c, ok := box.Intersect(a, b); ok {
		l = append(l, c)
	}
	for _, axis := range []int{-1, 0, 1, 2, 3} {
		for _, by := range []int{-1, 0, 2, math.MaxInt} {
			if c, ok := box.Shift(a, axis, by); ok {
				l = append(l, c)
			}
		}
	}
	return slices.Concat(l, box.Minus(a, b), box.Minus(b, a), box.Minus(a, a))
}

// pairs are boxes for which the functions return many boxes, and some that share the rank with none, or no cells.
func pairs() [][2]box.Box {
	return [][2]box.Box{
		{of([]int{0, 0, 0}, []int{4, 5, 6}), of([]int{1, 1, 1}, []int{2, 3, 4})},
		{of([]int{2, 1, 0}, []int{4, 5, 6}), of([]int{0, 2, 3}, []int{3, 9, 6})},
		{of([]int{0, 0}, []int{4, 5}), of([]int{4, 1}, []int{9, 2})},
		{flat(0, 9), flat(3, 5)},
		{flat(3, 5), flat(3, 5)},
		{flat(3, 3), flat(0, 5)},
		{flat(0, 9), of([]int{0, 0}, []int{1, 1})},
		{box.Box{}, box.Box{}},
		{box.Box{}, flat(0, 1)},
		{of(times(0, 16), times(2, 16)), of(times(0, 16), append(times(1, 15), 2))},
	}
}

// roomy returns a box whose lists have unused capacity with known numbers.
func roomy(b box.Box) box.Box {
	rank := len(b.Lo)
	return box.Box{Lo: append(slices.Clone(b.Lo), 91, 92)[:rank], Hi: append(slices.Clone(b.Hi), 93, 94)[:rank]}
}

func checkRoomy(t *testing.T, b, want box.Box) {
	t.Helper()
	rank := len(want.Lo)
	if !same(b, want) || !slices.Equal(b.Lo[rank:rank+2], []int{91, 92}) || !slices.Equal(b.Hi[rank:rank+2], []int{93, 94}) {
		t.Fatalf("an argument is %v; want %v, and the unused capacity as it was", b, want)
	}
}

func TestArgumentsStay(t *testing.T) {
	for _, x := range pairs() {
		a, b := roomy(x[0]), roomy(x[1])
		index := append(slices.Clone(a.Lo), 95)
		l := []box.Box{a, b, flat(91, 92)}
		results(a, b)
		box.Has(a, index)
		box.Has(a, index[:len(index)-1])
		box.Exact(a.Hi, l[:2])
		box.Exact(a.Hi, l[:1])
		checkRoomy(t, a, x[0])
		checkRoomy(t, b, x[1])
		if !slices.Equal(index, append(slices.Clone(x[0].Lo), 95)) || !sameList(l, []box.Box{x[0], x[1], flat(91, 92)}) {
			t.Fatalf("the arguments are %v and %v", index, l)
		}
	}
}

func TestResultsAreNew(t *testing.T) {
	for _, x := range pairs() {
		a, b := roomy(x[0]), roomy(x[1])
		l := append(results(a, b), results(a, b)...)
		want := copies(l)
		for i, c := range l {
			spoil(box.Box{Lo: c.Lo})
			if !slices.Equal(c.Hi, want[i].Hi) {
				t.Fatalf("the lists of result %d for %v share memory", i, x)
			}
			spoil(c)
			if !sameList(l[i+1:], want[i+1:]) {
				t.Fatalf("result %d for %v shares memory with another one", i, x)
			}
			checkRoomy(t, a, x[0])
			checkRoomy(t, b, x[1])
		}
		if got := results(a, b); !sameList(got, want[:len(got)]) {
			t.Fatalf("the results for %v are %v after others were changed; want %v", x, got, want)
		}
	}
}

func TestArgumentsAreChangedBehindACall(t *testing.T) {
	for _, x := range pairs() {
		a, b := roomy(x[0]), roomy(x[1])
		l := results(a, b)
		want := copies(l)
		spoil(a)
		spoil(b)
		if !sameList(l, want) {
			t.Fatalf("the results for %v are %v after the arguments were changed; want %v", x, l, want)
		}
	}
}

// callAll calls every function for arguments that the chapter may leave open.
func callAll(t *testing.T, a, b box.Box, list []int, axis, by int) {
	t.Helper()
	defer func() {
		if x := recover(); x != nil {
			t.Fatalf("boxes %v and %v, list %v, axis %d, by %d: panic: %v", a, b, list, axis, by, x)
		}
	}()
	if box.Right(a) != rightBox(a) {
		t.Fatalf("Right(%v) = %v", a, box.Right(a))
	}
	box.Whole(list)
	box.Size(a)
	box.Has(a, list)
	box.Minus(a, b)
	box.Exact(list, []box.Box{a, b})
	box.Exact(a.Hi, []box.Box{a})
	if c, ok := box.Intersect(a, b); !ok && !zero(c) {
		t.Fatalf("Intersect(%v, %v) = %v, %v", a, b, c, ok)
	}
	if c, ok := box.Shift(a, axis, by); !ok && !zero(c) {
		t.Fatalf("Shift(%v, %d, %d) = %v, %v", a, axis, by, c, ok)
	}
}

// The chapter leaves the results for boxes that are not right, or have too many cells, open, but the calls return.
func TestOpenArguments(t *testing.T) {
	boxes := append(wrongBoxes(),
		box.Box{}, flat(0, 3), of([]int{0, 1}, []int{2, 3}),
		of(times(0, 2), times(65536, 2)), of(times(0, 4), times(65536, 4)), of(times(0, 16), times(65536, 16)),
		of(times(1, 16), times(65535, 16)), of(times(0, 1000), times(1, 1000)), of(times(-1, 1000), times(2, 1000)),
		of(extremes, extremes), of(extremes[1:], extremes[:len(extremes)-1]))
	for _, a := range boxes {
		for _, b := range boxes {
			for i, n := range extremes {
				callAll(t, a, b, b.Lo, n, extremes[len(extremes)-1-i])
			}
			callAll(t, a, b, b.Hi, 0, 1)
			callAll(t, a, b, a.Lo, 1, -1)
			callAll(t, a, b, extremes, 2, 0)
		}
	}
}

// Shapes that are not right are open for Whole and Exact, but the calls return, at once even for great shapes.
func TestOpenShapes(t *testing.T) {
	shapes := [][]int{
		{-1}, {65537}, {256, 257}, {65536, 65536}, {1 << 32, 1 << 32}, {math.MinInt}, {math.MaxInt, 2}, {-1, -1}, {0, -1}, {0, 65537},
		times(1, 17), times(0, 17), times(2, 17), times(65536, 16), times(1, 70000), extremes,
	}
	for _, s := range shapes {
		whole := box.Whole(s)
		box.Exact(s, nil)
		box.Exact(s, []box.Box{whole})
		box.Exact(s, []box.Box{of(s, s)})
		box.Exact(s, []box.Box{{}, flat(0, 1)})
		for _, b := range wrongBoxes() {
			box.Exact(s, []box.Box{b, whole})
		}
	}
}

func TestRandomOpenArguments(t *testing.T) {
	source := rand.New(rand.NewPCG(6, 8))
	list := func() []int {
		l := make([]int, source.IntN(5))
		for i := range l {
			l[i] = source.IntN(6) - 1
			if source.IntN(5) == 0 {
				l[i] = int(source.Uint64()) >> source.IntN(64)
			}
		}
		return l
	}
	for range 50000 {
		a, b := of(list(), list()), of(list(), list())
		callAll(t, a, b, list(), source.IntN(8)-2, int(source.Uint64())>>source.IntN(64))
	}
}

// The limits of the tests are those of package api.
func TestLimits(t *testing.T) {
	if api.MaxRank != 16 || api.MaxCells != 65536 {
		t.Errorf("the limits are %d and %d", api.MaxRank, api.MaxCells)
	}
}
