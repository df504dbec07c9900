package array_test

import (
	"errors"
	"math"
	"math/rand/v2"
	"slices"
	"testing"

	"intarsia/api"
	"intarsia/array"
)

// extremes are numbers at the ends of their type, and numbers around 0 and the limits.
var extremes = []int{
	math.MinInt, math.MinInt + 1, math.MinInt32, -1 << 32, -65537, -65536, -2, -1, 0, 1, 2, 65535, 65536, 65537, 1 << 31, 1 << 32, 1 << 62, math.MaxInt - 1, math.MaxInt,
}

// list is an array with the error that the chapter gives it.
type list struct {
	s    []int
	data []int64
	e    api.Errno
}

func (x list) array() api.Array { return api.Array{Shape: x.s, Data: x.data} }

// upTo returns the numbers from 1 to n.
func upTo(n int) []int64 {
	data := make([]int64, n)
	for i := range data {
		data[i] = int64(i + 1)
	}
	return data
}

// ones returns a shape of some rank, all dimensions of which are 1.
func ones(rank int) []int { return slices.Repeat([]int{1}, rank) }

func rightLists() []list {
	return []list{
		{nil, upTo(1), 0},
		{[]int{}, []int64{math.MinInt64}, 0},
		{nil, []int64{0}, 0},
		{[]int{1}, upTo(1), 0},
		{[]int{6}, upTo(6), 0},
		{[]int{2, 3}, upTo(6), 0},
		{[]int{3, 2}, upTo(6), 0},
		{[]int{1, 6, 1}, upTo(6), 0},
		{[]int{2, 3, 4}, upTo(24), 0},
		{[]int{4}, []int64{math.MinInt64, -1, 0, math.MaxInt64}, 0},
		{[]int{2, 2}, []int64{7, 7, 7, 7}, 0},
		{[]int{65536}, upTo(65536), 0},
		{[]int{256, 256}, upTo(65536), 0},
		{[]int{1, 65536}, upTo(65536), 0},
		{[]int{65535}, upTo(65535), 0},
		{ones(16), upTo(1), 0},
		{slices.Repeat([]int{2}, 16), upTo(65536), 0},
		// Arrays without cells.
		{[]int{0}, nil, 0},
		{[]int{0}, []int64{}, 0},
		{[]int{0, 7}, nil, 0},
		{[]int{7, 0}, nil, 0},
		{[]int{2, 0, 4}, nil, 0},
		{[]int{0, 65536, 65536}, nil, 0},
		{[]int{65536, 65536, 0}, nil, 0},
		{make([]int, 16), nil, 0},
	}
}

func wrongLists() []list {
	const length, domain, limit = api.ErrLength, api.ErrDomain, api.ErrLimit
	return []list{
		// The data is too short or too long.
		{nil, nil, length},
		{[]int{}, []int64{}, length},
		{nil, upTo(2), length},
		{[]int{1}, nil, length},
		{[]int{1}, upTo(2), length},
		{[]int{2, 3}, nil, length},
		{[]int{2, 3}, upTo(2), length},
		{[]int{2, 3}, upTo(5), length},
		{[]int{2, 3}, upTo(7), length},
		{[]int{2, 3}, upTo(12), length},
		{[]int{0}, upTo(1), length},
		{[]int{0, 7}, upTo(7), length},
		{[]int{7, 0}, upTo(7), length},
		{[]int{65536, 65536, 0}, upTo(1), length},
		{[]int{65536}, upTo(65535), length},
		{[]int{65536}, upTo(65537), length},
		{[]int{256, 256}, nil, length},
		{ones(16), upTo(16), length},
		{ones(16), nil, length},
		{make([]int, 16), upTo(1), length},
		// A dimension is negative, whatever the others and the data are.
		{[]int{-1}, nil, domain},
		{[]int{-1}, upTo(1), domain},
		{[]int{-6}, upTo(6), domain},
		{[]int{-2, -3}, upTo(6), domain},
		{[]int{0, -1}, nil, domain},
		{[]int{-1, 0}, nil, domain},
		{[]int{-1, 70000}, nil, domain},
		{[]int{70000, -1}, nil, domain},
		{[]int{256, 257, -1}, upTo(3), domain},
		{[]int{math.MinInt}, nil, domain},
		{[]int{math.MaxInt, math.MinInt}, nil, domain},
		{append(ones(16), -1), upTo(1), domain},
		{append([]int{-1}, make([]int, 16)...), nil, domain},
		// A limit is exceeded, whatever the data is.
		{[]int{65537}, nil, limit},
		{[]int{65537}, upTo(65537), limit},
		{[]int{65537}, upTo(65536), limit},
		{[]int{256, 257}, upTo(256 * 257), limit},
		{[]int{256, 257}, upTo(1), limit},
		{[]int{0, 65537}, nil, limit},
		{[]int{65537, 0}, nil, limit},
		{[]int{65537, 0}, upTo(1), limit},
		{ones(17), upTo(1), limit},
		{ones(17), nil, limit},
		{make([]int, 17), nil, limit},
		{slices.Repeat([]int{2}, 17), upTo(131072), limit},
		{[]int{math.MaxInt}, nil, limit},
		// The products of these wrap around to right numbers.
		{[]int{65536, 65536, 65536, 65536}, nil, limit},
		{[]int{1 << 32, 1 << 32}, nil, limit},
		{[]int{math.MaxInt, math.MaxInt}, upTo(1), limit},
	}
}

func allLists() []list { return append(rightLists(), wrongLists()...) }

// smallShapes are the shapes of rank 0 to 4 with dimensions from 0 to 3.
func smallShapes() [][]int {
	shapes := [][]int{nil}
	for from, rank := 0, 1; rank <= 4; rank++ {
		shorter := shapes[from:]
		from = len(shapes)
		for _, s := range shorter {
			for n := range 4 {
				shapes = append(shapes, append(slices.Clone(s), n))
			}
		}
	}
	return shapes
}

// rightShapes are the small shapes, and the shapes of the right arrays, among them those at the limits.
func rightShapes() [][]int {
	shapes := smallShapes()
	for _, x := range rightLists() {
		shapes = append(shapes, x.s)
	}
	return shapes
}

// indicesOf lists the indices of a shape: each index of the last axes, behind each number of the first one.
func indicesOf(s []int) [][]int {
	if slices.Contains(s, 0) {
		return nil // the last axes alone may have too many indices
	}
	if len(s) == 0 {
		return [][]int{{}}
	}
	var indices [][]int
	rest := indicesOf(s[1:])
	for n := range s[0] {
		for _, index := range rest {
			indices = append(indices, slices.Concat([]int{n}, index))
		}
	}
	return indices
}

// same reports whether an array has a shape and data, without a call of the package.
func same(a api.Array, s []int, data []int64) bool {
	return slices.Equal(a.Shape, s) && slices.Equal(a.Data, data)
}

// spoil changes a list, and the unused capacity behind it.
func spoil[T int | int64](l []T) {
	for i := range l[:cap(l)] {
		l[:cap(l)][i] = T(1000 + i)
	}
}

func spoilArray(a api.Array) {
	spoil(a.Shape)
	spoil(a.Data)
}

// shorten makes a failure readable that shows a long list.
func shorten[T any](l []T) []T { return l[:min(len(l), 40)] }

func TestCheck(t *testing.T) {
	for i, x := range allLists() {
		if e := array.Check(x.array()); e != x.e {
			t.Errorf("array %d, shape %v, %d numbers: Check = %d; want %d", i, x.s, len(x.data), e, x.e)
		}
	}
}

func TestNew(t *testing.T) {
	for i, x := range allLists() {
		want := x.array()
		if x.e != api.OK {
			want = api.Array{}
		}
		if a, e := array.New(x.s, x.data); !same(a, want.Shape, want.Data) || e != x.e {
			t.Errorf("array %d: New(%v, %v) = %v, %v, %d; want the error %d", i, x.s, shorten(x.data), a.Shape, shorten(a.Data), e, x.e)
		}
	}
}

// Each small shape is tried with data of each length up to some beyond its cells.
func TestDataOfAllLengths(t *testing.T) {
	for _, s := range smallShapes() {
		cells := len(indicesOf(s))
		for n := range cells + 5 {
			want, data := api.ErrLength, upTo(n)
			if n == cells {
				want = api.OK
			}
			if e := array.Check(api.Array{Shape: s, Data: data}); e != want {
				t.Fatalf("Check of the shape %v with %d numbers = %d; want %d", s, n, e, want)
			}
			a, e := array.New(s, data)
			if e != want || want == api.OK && !same(a, s, data) || want != api.OK && len(a.Shape)+len(a.Data) != 0 {
				t.Fatalf("New(%v, %v) = %v, %d; want the error %d", s, data, a, e, want)
			}
		}
	}
}

func TestScalar(t *testing.T) {
	for _, n := range extremes {
		a := array.Scalar(int64(n))
		if !same(a, nil, []int64{int64(n)}) || array.Check(a) != api.OK {
			t.Errorf("Scalar(%d) = %v", n, a)
		}
		if cell, ok := array.At(a, nil); cell != int64(n) || !ok {
			t.Errorf("the cell of Scalar(%d) is %d, %v", n, cell, ok)
		}
	}
}

func TestVector(t *testing.T) {
	for _, l := range [][]int64{nil, {}, {0}, {7}, {-7, 7}, {math.MinInt64, 0, math.MaxInt64}, upTo(255), upTo(65535), upTo(65536)} {
		a := array.Vector(l...)
		if !same(a, []int{len(l)}, l) || array.Check(a) != api.OK {
			t.Errorf("Vector of %d numbers = %v, %v", len(l), a.Shape, shorten(a.Data))
		}
	}
	if a := array.Vector(); !same(a, []int{0}, nil) {
		t.Errorf("Vector() = %v", a)
	}
	if a := array.Vector(3, 1, 2); !same(a, []int{3}, []int64{3, 1, 2}) {
		t.Errorf("Vector(3, 1, 2) = %v", a)
	}
}

// checkNoCell checks that an array has no cell with a list.
func checkNoCell(t *testing.T, a api.Array, index []int) {
	t.Helper()
	if n, ok := array.At(a, index); n != 0 || ok {
		t.Fatalf("shape %v: At %v = %d, %v; want 0, false", a.Shape, shorten(index), n, ok)
	}
}

func TestAt(t *testing.T) {
	for _, s := range rightShapes() {
		indices := indicesOf(s)
		a := api.Array{Shape: s, Data: upTo(len(indices))}
		for offset, index := range indices {
			if n, ok := array.At(a, index); n != int64(offset+1) || !ok {
				t.Fatalf("shape %v: At %v = %d, %v; want %d", s, index, n, ok, offset+1)
			}
		}
	}
	example := api.Array{Shape: []int{2, 3}, Data: upTo(6)}
	if n, ok := array.At(example, []int{1, 2}); n != 6 || !ok {
		t.Errorf("the cell of the example is %d, %v; want 6", n, ok)
	}
	zero := api.Array{Shape: []int{2}, Data: []int64{5, 0}}
	if n, ok := array.At(zero, []int{1}); n != 0 || !ok {
		t.Errorf("a cell that is 0 is %d, %v; want 0, true", n, ok)
	}
}

func TestListsThatAreNoIndex(t *testing.T) {
	for _, s := range rightShapes() {
		indices := indicesOf(s)
		a := api.Array{Shape: s, Data: upTo(len(indices))}
		if len(indices) == 0 {
			checkNoCell(t, a, nil)
			checkNoCell(t, a, make([]int, len(s)))
			checkNoCell(t, a, ones(len(s)))
			continue
		}
		last := indices[len(indices)-1]
		checkNoCell(t, a, append(slices.Clone(last), 0))
		for axis, n := range s {
			checkNoCell(t, a, last[:axis])
			for _, wrong := range append([]int{n, n + 1, -n}, extremes...) {
				if wrong < 0 || wrong >= n {
					index := slices.Clone(last)
					index[axis] = wrong
					checkNoCell(t, a, index)
				}
			}
		}
	}
}

func TestCellsOfArraysThatAreNotRight(t *testing.T) {
	for _, x := range wrongLists() {
		for _, index := range [][]int{nil, {0}, {0, 0}, {1, 1}, x.s, make([]int, len(x.s)), ones(len(x.s))} {
			checkNoCell(t, x.array(), index)
		}
	}
}

func TestEqual(t *testing.T) {
	for i, x := range allLists() {
		for k, y := range allLists() {
			want := slices.Equal(x.s, y.s) && slices.Equal(x.data, y.data)
			if got := array.Equal(x.array(), y.array()); got != want {
				t.Errorf("Equal of the arrays %d and %d = %v; want %v", i, k, got, want)
			}
		}
	}
	six := upTo(6)
	for _, x := range []struct {
		a, b api.Array
		want bool
	}{
		{api.Array{}, api.Array{}, true},
		{api.Array{}, api.Array{Shape: []int{}, Data: []int64{}}, true},
		{api.Array{Data: []int64{9}}, api.Array{Shape: []int{}, Data: []int64{9}}, true},
		{api.Array{Data: []int64{9}}, api.Array{Data: []int64{8}}, false},
		{api.Array{Data: []int64{9}}, api.Array{Shape: []int{1}, Data: []int64{9}}, false},
		{api.Array{Shape: []int{0}}, api.Array{Shape: []int{0}, Data: []int64{}}, true},
		{api.Array{Shape: []int{0, 2}}, api.Array{Shape: []int{0, 3}}, false},
		{api.Array{Shape: []int{0, 2}}, api.Array{Shape: []int{2, 0}}, false},
		{api.Array{Shape: []int{2, 3}, Data: six}, api.Array{Shape: []int{2, 3}, Data: upTo(6)}, true},
		{api.Array{Shape: []int{2, 3}, Data: six}, api.Array{Shape: []int{3, 2}, Data: six}, false},
		{api.Array{Shape: []int{2, 3}, Data: six}, api.Array{Shape: []int{2, 3, 1}, Data: six}, false},
		{api.Array{Shape: []int{2, 3}, Data: six}, api.Array{Shape: []int{2, 3}, Data: []int64{1, 2, 3, 4, 5, 7}}, false},
		{api.Array{Shape: []int{2, 3}, Data: six}, api.Array{Shape: []int{2, 3}, Data: []int64{0, 2, 3, 4, 5, 6}}, false},
		{api.Array{Shape: []int{2}, Data: []int64{1, 1 << 32}}, api.Array{Shape: []int{2}, Data: []int64{1, 0}}, false},
		{api.Array{Shape: []int{1}, Data: []int64{math.MinInt64}}, api.Array{Shape: []int{1}, Data: []int64{math.MaxInt64}}, false},
		// Arrays that are not right are compared as well.
		{api.Array{Shape: []int{-1, 70000}, Data: six}, api.Array{Shape: []int{-1, 70000}, Data: upTo(6)}, true},
		{api.Array{Shape: []int{-1}}, api.Array{Shape: []int{-2}}, false},
		{api.Array{Shape: []int{2, 3}, Data: six[:5]}, api.Array{Shape: []int{2, 3}, Data: upTo(5)}, true},
		{api.Array{Shape: []int{2, 3}, Data: six[:5]}, api.Array{Shape: []int{2, 3}, Data: six}, false},
		{api.Array{Shape: []int{2, 3}, Data: six}, api.Array{Shape: []int{2, 3}, Data: append(upTo(6), 0)}, false},
	} {
		if got := array.Equal(x.a, x.b); got != x.want {
			t.Errorf("Equal(%v, %v) = %v; want %v", x.a, x.b, got, x.want)
		}
		if got := array.Equal(x.b, x.a); got != x.want {
			t.Errorf("Equal(%v, %v) = %v; want %v", x.b, x.a, got, x.want)
		}
	}
}

// Arrays that are not right are copied as well.
func TestCopy(t *testing.T) {
	for i, x := range allLists() {
		if a := array.Copy(x.array()); !same(a, x.s, x.data) {
			t.Errorf("array %d: Copy = %v, %v", i, a.Shape, shorten(a.Data))
		}
	}
}

func TestTabulate(t *testing.T) {
	for _, s := range rightShapes() {
		indices := indicesOf(s)
		var seen [][]int
		a, e := array.Tabulate(s, func(index []int) int64 {
			seen = append(seen, slices.Clone(index))
			return int64(-3 * len(seen)) // the number of the call shows their order
		})
		want := upTo(len(indices))
		for i := range want {
			want[i] *= -3
		}
		if !same(a, s, want) || e != api.OK {
			t.Fatalf("Tabulate(%v) = %v, %v, %d; want %v", s, a.Shape, shorten(a.Data), e, shorten(want))
		}
		if !slices.EqualFunc(seen, indices, slices.Equal[[]int]) {
			t.Fatalf("Tabulate(%v) calls f for %v; want %v", s, shorten(seen), shorten(indices))
		}
	}
}

func TestTabulateOfNumbers(t *testing.T) {
	a, e := array.Tabulate([]int{2, 3}, func(index []int) int64 { return int64(10*index[0] + index[1]) })
	if !same(a, []int{2, 3}, []int64{0, 1, 2, 10, 11, 12}) || e != api.OK {
		t.Errorf("Tabulate(2 3) = %v, %d", a, e)
	}
	a, e = array.Tabulate(nil, func(index []int) int64 { return int64(7 + len(index)) })
	if !same(a, nil, []int64{7}) || e != api.OK {
		t.Errorf("Tabulate of no axes = %v, %d", a, e)
	}
	a, e = array.Tabulate([]int{len(extremes)}, func(index []int) int64 { return int64(extremes[index[0]]) })
	for i, n := range extremes {
		if e != api.OK || a.Data[i] != int64(n) {
			t.Errorf("Tabulate of extreme numbers = %v, %d", a, e)
		}
	}
}

func TestTabulateOfWrongShapes(t *testing.T) {
	for _, x := range wrongLists() {
		if x.e == api.ErrLength { // the shape is right
			continue
		}
		a, e := array.Tabulate(x.s, func(index []int) int64 {
			t.Errorf("Tabulate(%v) calls f for %v", x.s, shorten(index))
			return 1
		})
		if !same(a, nil, nil) || e != x.e {
			t.Errorf("Tabulate(%v) = %v, %d; want the error %d", x.s, a, e, x.e)
		}
		if a, e := array.Tabulate(x.s, nil); !same(a, nil, nil) || e != x.e {
			t.Errorf("Tabulate(%v) without f = %v, %d; want the error %d", x.s, a, e, x.e)
		}
	}
}

// Where there are no cells, there is nothing to call f for.
func TestTabulateWithoutCells(t *testing.T) {
	for _, s := range rightShapes() {
		if !slices.Contains(s, 0) {
			continue
		}
		if a, e := array.Tabulate(s, nil); !same(a, s, nil) || e != api.OK {
			t.Errorf("Tabulate(%v) without f = %v, %d", s, a, e)
		}
	}
}

func TestTabulateWhileListsAreChanged(t *testing.T) {
	for _, s := range [][]int{nil, {1}, {4}, {2, 3}, {3, 1, 2}, slices.Repeat([]int{2}, 8)} {
		argument, indices := slices.Clone(s), indicesOf(s)
		var seen, kept [][]int
		a, e := array.Tabulate(argument, func(index []int) int64 {
			seen, kept = append(seen, slices.Clone(index)), append(kept, index)
			spoil(index)
			spoil(argument)
			return int64(len(seen))
		})
		for _, index := range kept {
			spoil(index)
		}
		if !same(a, s, upTo(len(indices))) || e != api.OK || !slices.EqualFunc(seen, indices, slices.Equal[[]int]) {
			t.Errorf("Tabulate(%v) = %v, %d, by the indices %v, for an f that changes lists", s, a, e, seen)
		}
	}
}

func TestTabulateInTabulate(t *testing.T) {
	a, e := array.Tabulate([]int{2, 2}, func(index []int) int64 {
		inner, _ := array.Tabulate([]int{3}, func(other []int) int64 { return int64(100*index[0] + 10*index[1] + other[0]) })
		return inner.Data[2]
	})
	if !same(a, []int{2, 2}, []int64{2, 12, 102, 112}) || e != api.OK {
		t.Errorf("Tabulate = %v, %d", a, e)
	}
}

// results calls every function for s and data, and returns the arrays that they return.
func results(s []int, data []int64) []api.Array {
	a := api.Array{Shape: s, Data: data}
	array.Check(a)
	array.Equal(a, a)
	array.At(a, s)
	array.At(a, make([]int, len(s)))
	made, _ := array.New(s, data)
	tabulated, _ := array.Tabulate(s, func([]int) int64 { return 5 })
	return []api.Array{made, array.Copy(a), array.Vector(data...), array.Scalar(9), tabulated, array.Vector(), array.Copy(api.Array{})}
}

func TestArgumentsStay(t *testing.T) {
	for _, s := range [][]int{{2, 3, 4, 91, 92}, {0, 3, 0, 91, 92}, {-1, 70000, 3, 91, 92}} {
		shapes, data := slices.Clone(s), upTo(26)
		for rank := range s { // the other numbers are unused capacity
			for n := range data {
				results(shapes[:rank], data[:n])
			}
		}
		if !slices.Equal(shapes, s) || !slices.Equal(data, upTo(26)) {
			t.Errorf("the lists are %v and %v; want %v and 1 to 26", shapes, data, s)
		}
	}
	index := []int{1, 2, 91}
	array.At(api.Array{Shape: []int{2, 3}, Data: upTo(6)}, index[:2])
	array.At(api.Array{Shape: []int{2, 3}, Data: upTo(6)}, index[:1])
	if !slices.Equal(index, []int{1, 2, 91}) {
		t.Errorf("the index is %v; want 1 2 91", index)
	}
}

func TestResultsAreNew(t *testing.T) {
	for i, x := range allLists() {
		if len(x.data) > 1000 {
			continue
		}
		s, data := append(slices.Clone(x.s), 91, 92), append(slices.Clone(x.data), 93, 94)
		shapeBefore, dataBefore := slices.Clone(s), slices.Clone(data)
		argument, numbers := s[:len(x.s)], data[:len(x.data)]
		arrays := append(results(argument, numbers), results(argument, numbers)...)
		var want []list
		for _, a := range arrays {
			want = append(want, list{slices.Clone(a.Shape), slices.Clone(a.Data), 0})
		}
		for k, a := range arrays {
			spoilArray(a)
			for n := k + 1; n < len(arrays); n++ {
				if !same(arrays[n], want[n].s, want[n].data) {
					t.Fatalf("array %d: the results %d and %d share memory", i, k, n)
				}
			}
		}
		if !slices.Equal(s, shapeBefore) || !slices.Equal(data, dataBefore) {
			t.Fatalf("array %d: results share memory with the arguments: %v, %v", i, s, data)
		}
		for k, a := range results(argument, numbers) {
			if !same(a, want[k].s, want[k].data) {
				t.Fatalf("array %d: the result %d is %v after others were changed", i, k, a)
			}
		}
	}
}

func TestArgumentsAreChangedBehindACall(t *testing.T) {
	for i, x := range rightLists() {
		s, data := slices.Clone(x.s), slices.Clone(x.data)
		arrays := results(s, data)
		spoil(s)
		spoil(data)
		want := results(x.s, x.data)
		for k, a := range arrays {
			if !same(a, want[k].Shape, want[k].Data) {
				t.Errorf("array %d: the result %d changes with the arguments", i, k)
			}
		}
	}
}

// checkFailure checks that Tabulate returns for an f that the chapter leaves open, and with an error, nothing else.
func checkFailure(t *testing.T, s []int, f func(index []int) int64) {
	t.Helper()
	defer func() {
		if x := recover(); x != nil {
			t.Errorf("Tabulate(%v) panics: %v", s, x)
		}
	}()
	if a, e := array.Tabulate(s, f); e != api.OK && len(a.Shape)+len(a.Data) != 0 {
		t.Errorf("Tabulate(%v) = %v, %d", s, a, e)
	}
}

// The chapter leaves it open what Tabulate returns for a function that is nil or panics.
func TestFunctionsThatPanic(t *testing.T) {
	for _, s := range [][]int{nil, {1}, {2, 3}, {65536}, ones(16)} {
		checkFailure(t, s, nil)
		checkFailure(t, s, func([]int) int64 { panic("text") })
		checkFailure(t, s, func([]int) int64 { panic(errors.New("error")) })
		checkFailure(t, s, func([]int) int64 { panic(nil) })
		checkFailure(t, s, func(index []int) int64 { return int64(index[len(index)]) })
		checkFailure(t, s, func(index []int) int64 { return int64(1 / index[0]) })
		cells := len(indicesOf(s))
		for _, last := range []int{1, cells/2 + 1, cells} {
			calls := 0
			checkFailure(t, s, func([]int) int64 {
				if calls++; calls == last {
					panic(calls)
				}
				return 1
			})
		}
	}
	if a, e := array.Tabulate([]int{2}, func(index []int) int64 { return int64(index[0]) }); !same(a, []int{2}, []int64{0, 1}) || e != api.OK {
		t.Errorf("Tabulate = %v, %d after functions that panicked", a, e)
	}
}

// A panic that f recovers itself is no matter of Tabulate.
func TestFunctionThatRecovers(t *testing.T) {
	a, e := array.Tabulate([]int{3}, func(index []int) (n int64) {
		defer func() {
			if recover() != nil {
				n = -1
			}
		}()
		return int64(6 / index[0])
	})
	if !same(a, []int{3}, []int64{-1, 6, 3}) || e != api.OK {
		t.Errorf("Tabulate = %v, %d", a, e)
	}
}

// The chapter leaves vectors of more than MaxCells numbers open, but the calls return.
func TestOpenArguments(t *testing.T) {
	for _, n := range []int{65537, 131072, 1 << 20} {
		a := array.Vector(upTo(n)...)
		array.Check(a)
		array.Copy(a)
		array.Equal(a, a)
		array.At(a, []int{0})
		array.At(a, []int{n - 1})
	}
}

// Arrays of any lists have the errors of the chapter's order.
func TestRandomArrays(t *testing.T) {
	source := rand.New(rand.NewPCG(5, 5))
	some := func(most int) []int {
		l := make([]int, source.IntN(most))
		for i := range l {
			l[i] = extremes[source.IntN(len(extremes))]
			if source.IntN(4) > 0 {
				l[i] = source.IntN(4)
			}
		}
		return l
	}
	for range 20000 {
		s := some(20)
		a := api.Array{Shape: s, Data: upTo(source.IntN(40))}
		want := expect(s, len(a.Data))
		if e := array.Check(a); e != want {
			t.Fatalf("Check of the shape %v with %d numbers = %d; want %d", s, len(a.Data), e, want)
		}
		made, e := array.New(a.Shape, a.Data)
		if e != want || want == api.OK && !same(made, a.Shape, a.Data) || want != api.OK && !same(made, nil, nil) {
			t.Fatalf("New(%v, %v) = %v, %d; want the error %d", s, a.Data, made, e, want)
		}
		if n, ok := array.At(a, some(20)); ok && want != api.OK || !ok && n != 0 {
			t.Fatalf("shape %v: At = %d, %v", s, n, ok)
		}
		if !array.Equal(array.Copy(a), a) {
			t.Fatalf("shape %v: the copy is another array", s)
		}
	}
}

// expect returns the error of a shape with a number of data, without a call of the other layers.
func expect(s []int, data int) api.Errno {
	if slices.ContainsFunc(s, func(n int) bool { return n < 0 }) {
		return api.ErrDomain
	}
	if len(s) > api.MaxRank || slices.ContainsFunc(s, func(n int) bool { return n > api.MaxCells }) {
		return api.ErrLimit
	}
	cells := 1
	for _, n := range s {
		cells = min(cells*n, api.MaxCells+1) // no dimension is greater than MaxCells here, so nothing wraps around
	}
	if slices.Contains(s, 0) {
		cells = 0
	}
	if cells > api.MaxCells {
		return api.ErrLimit
	}
	if data != cells {
		return api.ErrLength
	}
	return api.OK
}
