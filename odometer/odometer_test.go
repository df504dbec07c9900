package odometer_test

import (
	"iter"
	"math"
	"math/rand/v2"
	"slices"
	"testing"

	"intarsia/odometer"
)

// least and most are the limits of the numbers that the chapter specifies.
const least, most = -1 << 31, 1 << 31

// span is a range with all its indices.
type span struct {
	lo, hi  []int
	indices [][]int
}

func knownSpans() []span {
	return []span{
		{nil, nil, [][]int{{}}},
		{[]int{}, nil, [][]int{{}}},
		{nil, []int{}, [][]int{{}}},
		{[]int{}, []int{}, [][]int{{}}},
		{[]int{0}, []int{1}, [][]int{{0}}},
		{[]int{2}, []int{5}, [][]int{{2}, {3}, {4}}},
		{[]int{-2}, []int{1}, [][]int{{-2}, {-1}, {0}}},
		{[]int{-7}, []int{-5}, [][]int{{-7}, {-6}}},
		{[]int{0, 1}, []int{2, 3}, [][]int{{0, 1}, {0, 2}, {1, 1}, {1, 2}}},
		{[]int{0, 0}, []int{1, 3}, [][]int{{0, 0}, {0, 1}, {0, 2}}},
		{[]int{0, 0}, []int{3, 1}, [][]int{{0, 0}, {1, 0}, {2, 0}}},
		{[]int{-1, 4, 9}, []int{1, 5, 11}, [][]int{{-1, 4, 9}, {-1, 4, 10}, {0, 4, 9}, {0, 4, 10}}},
		{[]int{5, 5, 5}, []int{6, 6, 6}, [][]int{{5, 5, 5}}},
		// All carries at once: the numbers of all axes but the first one start again.
		{[]int{8, -1, 0}, []int{10, 1, 2}, [][]int{
			{8, -1, 0}, {8, -1, 1}, {8, 0, 0}, {8, 0, 1}, {9, -1, 0}, {9, -1, 1}, {9, 0, 0}, {9, 0, 1},
		}},
		{[]int{least}, []int{least + 2}, [][]int{{least}, {least + 1}}},
		{[]int{most - 2}, []int{most}, [][]int{{most - 2}, {most - 1}}},
		{[]int{most - 1, least}, []int{most, least + 2}, [][]int{{most - 1, least}, {most - 1, least + 1}}},
	}
}

// emptySpans are ranges without indices; the products of some of their differences are positive, or wrap around.
func emptySpans() []span {
	return []span{
		{[]int{0}, []int{0}, nil},
		{[]int{3}, []int{3}, nil},
		{[]int{-3}, []int{-3}, nil},
		{[]int{5}, []int{1}, nil},
		{[]int{1}, []int{-1}, nil},
		{[]int{0, 3}, []int{2, 3}, nil},
		{[]int{3, 0}, []int{3, 2}, nil},
		{[]int{0, 0, 0}, []int{2, 0, 2}, nil},
		{[]int{5, 7}, []int{1, 2}, nil},
		{[]int{5, 0, 7}, []int{1, 9, 2}, nil},
		{[]int{0, 5, 7}, []int{9, 1, 2}, nil},
		{[]int{5, 7, 9}, []int{1, 2, 3}, nil},
		{[]int{most}, []int{most}, nil},
		{[]int{most}, []int{least}, nil},
		{[]int{most, most}, []int{least, least}, nil},
		{[]int{least, 0}, []int{most, 0}, nil},
		{[]int{0, least}, []int{0, most}, nil},
		{[]int{least, least, least, 3}, []int{most, most, most, 3}, nil},
		{[]int{4, least, least, least}, []int{3, most, most, most}, nil},
	}
}

// smallSpans are all ranges of rank 0 to 3 with numbers from -1 to 2.
func smallSpans() []span {
	spans := []span{{}}
	for from, rank := 0, 1; rank <= 3; rank++ {
		shorter := spans[from:]
		from = len(spans)
		for _, x := range shorter {
			for ends := range 16 {
				lo, hi := ends/4-1, ends%4-1
				spans = append(spans, span{append(slices.Clone(x.lo), lo), append(slices.Clone(x.hi), hi), nil})
			}
		}
	}
	for i, x := range spans {
		spans[i].indices = indicesOf(x.lo, x.hi)
	}
	return spans
}

// indicesOf lists the indices of a range: each index of the last axes, behind each number of the first one.
func indicesOf(lo, hi []int) [][]int {
	if len(lo) == 0 {
		return [][]int{{}}
	}
	var indices [][]int
	rest := indicesOf(lo[1:], hi[1:])
	for n := lo[0]; n < hi[0]; n++ {
		for _, index := range rest {
			indices = append(indices, slices.Concat([]int{n}, index))
		}
	}
	return indices
}

func allSpans() []span { return slices.Concat(knownSpans(), emptySpans(), smallSpans()) }

func same(a, b [][]int) bool { return slices.EqualFunc(a, b, slices.Equal[[]int]) }

// some collects the first indices of an iterator, at most n of them.
func some(l iter.Seq[[]int], n int) [][]int {
	var indices [][]int
	for index := range l {
		if len(indices) == n {
			break
		}
		indices = append(indices, index)
	}
	return indices
}

// every collects the indices of an iterator; one that goes on beyond all ranges tried here is cut off.
func every(l iter.Seq[[]int]) [][]int { return some(l, 65537) }

func copies(l [][]int) [][]int {
	result := make([][]int, len(l))
	for i, list := range l {
		result[i] = slices.Clone(list)
	}
	return result
}

// spoil changes a list, and the unused capacity behind it.
func spoil(l []int) {
	for i := range l[:cap(l)] {
		l[:cap(l)][i] = 1000 + i
	}
}

// checkNext checks the index behind another one; none is expected for nil.
func checkNext(t *testing.T, lo, hi, index, want []int) {
	t.Helper()
	next, ok := odometer.Next(lo, hi, index)
	if !slices.Equal(next, want) || ok != (want != nil) {
		t.Fatalf("Next(%v, %v, %v) = %v, %v; want %v", lo, hi, index, next, ok, want)
	}
}

func TestNext(t *testing.T) {
	for _, x := range allSpans() {
		for i, index := range x.indices {
			var want []int
			if i+1 < len(x.indices) {
				want = x.indices[i+1]
			}
			checkNext(t, x.lo, x.hi, index, want)
		}
	}
}

func TestNextOutsideOfTheRange(t *testing.T) {
	for _, x := range []struct{ lo, hi, index []int }{
		{[]int{2}, []int{5}, []int{1}},
		{[]int{2}, []int{5}, []int{5}},
		{[]int{2}, []int{5}, []int{6}},
		{[]int{2}, []int{5}, []int{least}},
		{[]int{2}, []int{5}, []int{most}},
		{[]int{0, 0}, []int{2, 2}, []int{-1, 0}},
		{[]int{0, 0}, []int{2, 2}, []int{0, -1}}, // one more is in the range
		{[]int{0, 0}, []int{2, 2}, []int{-1, 1}}, // so is this with a carry
		{[]int{0, 0}, []int{2, 2}, []int{0, 2}},
		{[]int{0, 0}, []int{2, 2}, []int{1, 2}},
		{[]int{0, 0}, []int{2, 2}, []int{2, 0}},
		{[]int{0, 0}, []int{2, 2}, []int{2, 2}},
		{[]int{0, 0, 0}, []int{2, 2, 2}, []int{0, 2, 1}},
		{[]int{0, 0, 0}, []int{2, 2, 2}, []int{0, -1, 1}},
		{[]int{least}, []int{0}, []int{0}},
		{[]int{0}, []int{most}, []int{most}},
		{[]int{0}, []int{most}, []int{-1}},
	} {
		checkNext(t, x.lo, x.hi, x.index, nil)
	}
	for _, x := range emptySpans() {
		checkNext(t, x.lo, x.hi, x.lo, nil)
		checkNext(t, x.lo, x.hi, x.hi, nil)
	}
}

// The lists around each small range are tried, too.
func TestNextOfAllSmallLists(t *testing.T) {
	for _, x := range smallSpans() {
		lists := indicesOf(slices.Repeat([]int{-2}, len(x.lo)), slices.Repeat([]int{4}, len(x.lo)))
		for _, list := range lists {
			if !slices.ContainsFunc(x.indices, func(index []int) bool { return slices.Equal(index, list) }) {
				checkNext(t, x.lo, x.hi, list, nil)
			}
		}
	}
}

func TestBetween(t *testing.T) {
	for _, x := range allSpans() {
		if l := every(odometer.Between(x.lo, x.hi)); !same(l, x.indices) {
			t.Fatalf("Between(%v, %v) yields %v; want %v", x.lo, x.hi, l, x.indices)
		}
	}
}

func TestAll(t *testing.T) {
	for _, x := range []struct {
		s       []int
		indices [][]int
	}{
		{nil, [][]int{{}}},
		{[]int{}, [][]int{{}}},
		{[]int{1}, [][]int{{0}}},
		{[]int{3}, [][]int{{0}, {1}, {2}}},
		{[]int{2, 3}, [][]int{{0, 0}, {0, 1}, {0, 2}, {1, 0}, {1, 1}, {1, 2}}},
		{[]int{1, 2, 1}, [][]int{{0, 0, 0}, {0, 1, 0}}},
		{slices.Repeat([]int{1}, 16), [][]int{make([]int, 16)}},
		{[]int{0}, nil},
		{[]int{0, 0}, nil},
		{[]int{0, 3}, nil},
		{[]int{3, 0}, nil},
		{[]int{2, 0, 2}, nil},
		{[]int{65536, 65536, 0}, nil},
		{[]int{0, 65536, 65536}, nil},
		{make([]int, 16), nil},
	} {
		if l := every(odometer.All(x.s)); !same(l, x.indices) {
			t.Errorf("All(%v) yields %v; want %v", x.s, l, x.indices)
		}
	}
}

func TestShapesAtTheLimits(t *testing.T) {
	for _, s := range [][]int{
		{65536}, {256, 256}, {65536, 1}, {1, 65536}, {3, 21845}, {16, 16, 16, 16}, {7, 11, 13, 5, 3}, slices.Repeat([]int{2}, 16),
	} {
		want := indicesOf(make([]int, len(s)), s)
		if l := every(odometer.All(s)); !same(l, want) {
			t.Errorf("All(%v) yields %d indices, not the %d of the shape in order", s, len(l), len(want))
		}
		if n := odometer.Count(make([]int, len(s)), s); n != len(want) {
			t.Errorf("Count to %v = %d; want %d", s, n, len(want))
		}
	}
}

func TestCount(t *testing.T) {
	for _, x := range allSpans() {
		if n := odometer.Count(x.lo, x.hi); n != len(x.indices) {
			t.Fatalf("Count(%v, %v) = %d; want %d", x.lo, x.hi, n, len(x.indices))
		}
	}
}

// manySpan is a range that has too many indices to try all of them.
type manySpan struct {
	lo, hi      []int
	n           int
	first, last [][]int
}

func manySpans() []manySpan {
	zeros, ones, twos := make([]int, 31), slices.Repeat([]int{1}, 31), slices.Repeat([]int{2}, 31)
	second := slices.Clone(zeros)
	second[30] = 1
	lastButOne := slices.Clone(ones)
	lastButOne[30] = 0
	return []manySpan{
		{[]int{0}, []int{most}, most, [][]int{{0}, {1}, {2}}, [][]int{{most - 2}, {most - 1}}},
		{[]int{least}, []int{0}, most, [][]int{{least}, {least + 1}}, [][]int{{-2}, {-1}}},
		{[]int{least / 2}, []int{most / 2}, most, [][]int{{least / 2}, {least/2 + 1}}, [][]int{{most/2 - 1}}},
		{[]int{0, 0}, []int{1, most}, most, [][]int{{0, 0}, {0, 1}}, [][]int{{0, most - 1}}},
		{[]int{0, 0}, []int{most, 1}, most, [][]int{{0, 0}, {1, 0}}, [][]int{{most - 1, 0}}},
		{[]int{-1, 9}, []int{65535, 32777}, most, [][]int{{-1, 9}, {-1, 10}}, [][]int{{65534, 32775}, {65534, 32776}}},
		{[]int{0, -2, 0}, []int{46340, 0, 23170}, 2147395600, [][]int{{0, -2, 0}}, [][]int{{46339, -1, 23168}, {46339, -1, 23169}}},
		{zeros, twos, most, [][]int{zeros, second}, [][]int{lastButOne, ones}},
	}
}

func TestManyIndices(t *testing.T) {
	for _, x := range manySpans() {
		if n := odometer.Count(x.lo, x.hi); n != x.n {
			t.Errorf("Count(%v, %v) = %d; want %d", x.lo, x.hi, n, x.n)
		}
		if l := some(odometer.Between(x.lo, x.hi), len(x.first)); !same(l, x.first) {
			t.Errorf("Between(%v, %v) yields %v first; want %v", x.lo, x.hi, l, x.first)
		}
		for _, l := range [][][]int{x.first, x.last} {
			for i := range len(l) - 1 {
				checkNext(t, x.lo, x.hi, l[i], l[i+1])
			}
		}
		checkNext(t, x.lo, x.hi, x.last[len(x.last)-1], nil)
	}
}

func TestManyAxes(t *testing.T) {
	const rank = 70000
	lo := slices.Repeat([]int{least}, rank)
	hi := slices.Repeat([]int{least + 1}, rank)
	hi[rank/2] += 2
	want := [][]int{slices.Clone(lo), slices.Clone(lo), slices.Clone(lo)}
	want[1][rank/2]++
	want[2][rank/2] += 2
	if n := odometer.Count(lo, hi); n != 3 {
		t.Errorf("Count = %d; want 3", n)
	}
	if !same(some(odometer.Between(lo, hi), 4), want) {
		t.Errorf("Between does not yield the three indices")
	}
	if next, ok := odometer.Next(lo, hi, want[1]); !ok || !slices.Equal(next, want[2]) {
		t.Errorf("Next does not return the last index")
	}
}

func TestLoopsThatAreLeftEarly(t *testing.T) {
	for _, x := range knownSpans() {
		l := odometer.Between(x.lo, x.hi)
		for n := range len(x.indices) + 1 {
			if got := some(l, n); !same(got, x.indices[:n]) {
				t.Fatalf("Between(%v, %v) yields %v first; want %v", x.lo, x.hi, got, x.indices[:n])
			}
		}
		if got := every(l); !same(got, x.indices) {
			t.Fatalf("Between(%v, %v) yields %v after loops that were left", x.lo, x.hi, got)
		}
	}
}

func TestNothingIsYieldedAfterTheEnd(t *testing.T) {
	for _, l := range []iter.Seq[[]int]{odometer.Between([]int{0, 1}, []int{2, 3}), odometer.All([]int{2, 2}), odometer.All(nil)} {
		calls := 0
		l(func([]int) bool {
			calls++
			return false
		})
		if calls != 1 {
			t.Errorf("%d indices were yielded to a loop that ended with the first one", calls)
		}
	}
}

func TestIteratorsAreUsedSeveralTimes(t *testing.T) {
	l := odometer.Between([]int{-1, 2}, []int{1, 4})
	want := [][]int{{-1, 2}, {-1, 3}, {0, 2}, {0, 3}}
	for range 3 {
		if got := every(l); !same(got, want) {
			t.Fatalf("the iterator yields %v; want %v", got, want)
		}
	}
	var outer, inner [][]int
	for index := range l {
		outer = append(outer, index)
		for other := range l {
			if inner = append(inner, other); len(inner) > 16 {
				break
			}
		}
		if len(outer) > 4 {
			break
		}
	}
	if !same(outer, want) || !same(inner, slices.Repeat(want, len(want))) {
		t.Errorf("loops in each other yield %v and %v", outer, inner)
	}
	shape := odometer.All([]int{1, 2})
	if a, b := every(shape), every(shape); !same(a, b) || !same(a, [][]int{{0, 0}, {0, 1}}) {
		t.Errorf("All yields %v, and then %v", a, b)
	}
}

func TestLoopsTakeTurns(t *testing.T) {
	l := odometer.All([]int{2, 2})
	want := [][]int{{0, 0}, {0, 1}, {1, 0}, {1, 1}}
	first, stopFirst := iter.Pull(l)
	defer stopFirst()
	second, stopSecond := iter.Pull(l)
	defer stopSecond()
	ahead, _ := first()
	if !slices.Equal(ahead, want[0]) {
		t.Fatalf("the first loop begins with %v", ahead)
	}
	for i := range want {
		ahead, more := first()
		behind, ok := second()
		if more != (i+1 < len(want)) || more && !slices.Equal(ahead, want[i+1]) || !ok || !slices.Equal(behind, want[i]) {
			t.Fatalf("step %d: the loops yield %v, %v and %v, %v", i, ahead, more, behind, ok)
		}
	}
	if index, ok := second(); ok {
		t.Errorf("the second loop yields %v at its end", index)
	}
}

func TestYieldedIndicesAreChanged(t *testing.T) {
	for _, x := range knownSpans() {
		l := odometer.Between(x.lo, x.hi)
		for range 2 {
			var seen [][]int
			for index := range l {
				seen = append(seen, slices.Clone(index))
				spoil(index)
			}
			if !same(seen, x.indices) {
				t.Fatalf("Between(%v, %v) yields %v to a loop that changes them; want %v", x.lo, x.hi, seen, x.indices)
			}
		}
	}
	var seen [][]int
	for index := range odometer.All([]int{2, 2}) {
		seen = append(seen, slices.Clone(index))
		spoil(index)
	}
	if !same(seen, [][]int{{0, 0}, {0, 1}, {1, 0}, {1, 1}}) {
		t.Errorf("All yields %v to a loop that changes them", seen)
	}
}

func TestListsBehindARangeAreChanged(t *testing.T) {
	for _, x := range slices.Concat(knownSpans(), emptySpans()) {
		lo, hi := slices.Clone(x.lo), slices.Clone(x.hi)
		l := odometer.Between(lo, hi)
		spoil(lo)
		spoil(hi)
		if got := some(l, 100); !same(got, x.indices) {
			t.Fatalf("Between(%v, %v) yields %v after its lists were changed; want %v", x.lo, x.hi, got, x.indices)
		}
	}
	lo, hi, s := []int{0, 1}, []int{2, 3}, []int{2, 2}
	var seen [][]int
	for index := range odometer.Between(lo, hi) {
		seen = append(seen, index)
		lo[1]--
		hi[1]--
	}
	if !same(seen, [][]int{{0, 1}, {0, 2}, {1, 1}, {1, 2}}) {
		t.Errorf("Between yields %v while its lists are changed", seen)
	}
	l := odometer.All(s)
	s[0], s[1] = 0, 5
	if got := every(l); !same(got, [][]int{{0, 0}, {0, 1}, {1, 0}, {1, 1}}) {
		t.Errorf("All yields %v after the shape was changed", got)
	}
}

func TestIndicesAreNew(t *testing.T) {
	for _, x := range knownSpans() {
		l := odometer.Between(x.lo, x.hi)
		indices := append(every(l), every(l)...)
		for _, index := range x.indices {
			for range 2 {
				if next, ok := odometer.Next(x.lo, x.hi, index); ok {
					indices = append(indices, next)
				}
			}
		}
		want := copies(indices)
		lo, hi, before := slices.Clone(x.lo), slices.Clone(x.hi), copies(x.indices)
		for i, index := range indices {
			spoil(index)
			if !same(indices[i+1:], want[i+1:]) {
				t.Fatalf("Between(%v, %v): index %d shares memory with another one", lo, hi, i)
			}
		}
		if !slices.Equal(x.lo, lo) || !slices.Equal(x.hi, hi) || !same(x.indices, before) {
			t.Fatalf("indices from %v to %v share memory with arguments", lo, hi)
		}
		if got := every(l); !same(got, before) {
			t.Fatalf("indices from %v to %v share memory with the iterator, which yields %v", lo, hi, got)
		}
	}
}

func TestArgumentsStay(t *testing.T) {
	for _, x := range []struct{ lo, hi, index []int }{
		{[]int{0, 1, 2, 91, 92}, []int{2, 3, 5, 93, 94}, []int{0, 2, 4, 95, 96}},
		{[]int{0, 1, 2, 91, 92}, []int{2, 3, 5, 93, 94}, []int{1, 2, 4, 95, 96}},
		{[]int{0, 1, 2, 91, 92}, []int{2, 3, 5, 93, 94}, []int{2, 2, 7, 95, 96}},
		{[]int{0, 1, 2, 91, 92}, []int{2, 1, 0, 93, 94}, []int{0, 1, 2, 95, 96}},
	} {
		lo, hi, index := slices.Clone(x.lo), slices.Clone(x.hi), slices.Clone(x.index)
		for rank := range len(lo) - 1 { // the other numbers are unused capacity
			odometer.Next(lo[:rank], hi[:rank], index[:rank])
			odometer.Next(lo[:rank], hi[:rank+1], index[:rank])
			odometer.Count(lo[:rank], hi[:rank])
			some(odometer.Between(lo[:rank], hi[:rank]), 100)
			some(odometer.All(hi[:rank]), 100)
		}
		if !slices.Equal(lo, x.lo) || !slices.Equal(hi, x.hi) || !slices.Equal(index, x.index) {
			t.Errorf("the lists are %v, %v and %v; want %v, %v and %v", lo, hi, index, x.lo, x.hi, x.index)
		}
	}
}

// The chapter leaves the results of these open, but the calls return, and so do loops that are left early.
func TestOpenArguments(t *testing.T) {
	extremes := []int{math.MinInt, math.MinInt + 1, least - 1, least, -1, 0, 1, most, most + 1, 1 << 62, math.MaxInt - 1, math.MaxInt}
	lists := [][]int{nil, {}, extremes, slices.Repeat([]int{1}, 70000), slices.Repeat([]int{2}, 70000), make([]int, 70000)}
	for _, n := range extremes {
		for _, m := range extremes {
			lists = append(lists, []int{n, m})
		}
		lists = append(lists, []int{n}, slices.Repeat([]int{n}, 17))
	}
	for _, lo := range lists {
		some(odometer.All(lo), 2)
		for _, hi := range lists {
			odometer.Count(lo, hi)
			odometer.Next(lo, hi, lo)
			odometer.Next(lo, hi, hi)
			odometer.Next(lo, lo, hi)
			some(odometer.Between(lo, hi), 2)
		}
	}
}

func TestRandomOpenArguments(t *testing.T) {
	source := rand.New(rand.NewPCG(4, 4))
	list := func() []int {
		l := make([]int, source.IntN(6))
		for i := range l {
			l[i] = int(source.Uint64()) >> source.IntN(64)
		}
		return l
	}
	for range 20000 {
		lo, hi, index := list(), list(), list()
		odometer.Count(lo, hi)
		odometer.Next(lo, hi, index)
		some(odometer.Between(lo, hi), 5)
		some(odometer.All(lo), 5)
	}
}
