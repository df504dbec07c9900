package env_test

import (
	"fmt"
	"math"
	"math/rand/v2"
	"runtime"
	"slices"
	"strconv"
	"strings"
	"sync"
	"testing"

	"intarsia/api"
	"intarsia/env"
)

func upTo(n int) []int64 {
	data := make([]int64, n)
	for i := range data {
		data[i] = int64(i + 1)
	}
	return data
}

func vector(l ...int64) api.Array { return api.Array{Shape: []int{len(l)}, Data: l} }

func scalar(n int64) api.Array { return api.Array{Data: []int64{n}} }

func rightArrays() []api.Array {
	return []api.Array{
		scalar(0),
		scalar(math.MinInt64),
		{Shape: []int{}, Data: []int64{7}},
		vector(5),
		vector(5, 6, 7),
		vector(math.MinInt64, -1, 0, 1, math.MaxInt64),
		{Shape: []int{2, 3}, Data: upTo(6)},
		{Shape: []int{1, 6, 1}, Data: upTo(6)},
		{Shape: []int{65536}, Data: upTo(65536)},
		{Shape: []int{256, 256}, Data: upTo(65536)},
		{Shape: slices.Repeat([]int{1}, 16), Data: upTo(1)},
		{Shape: slices.Repeat([]int{2}, 16), Data: upTo(65536)},
		// Arrays without cells.
		{Shape: []int{0}},
		{Shape: []int{0}, Data: []int64{}},
		{Shape: []int{0, 7}},
		{Shape: []int{7, 0}},
		{Shape: []int{65536, 65536, 0}},
		{Shape: make([]int, 16)},
	}
}

func wrongArrays() []api.Array {
	return []api.Array{
		// The data is too short or too long.
		{},
		{Shape: []int{}, Data: []int64{}},
		{Data: upTo(2)},
		{Shape: []int{1}},
		{Shape: []int{3}, Data: upTo(2)},
		{Shape: []int{3}, Data: upTo(4)},
		{Shape: []int{2, 3}, Data: upTo(5)},
		{Shape: []int{2, 3}, Data: upTo(7)},
		{Shape: []int{0}, Data: upTo(1)},
		{Shape: make([]int, 16), Data: upTo(1)},
		// A dimension is negative.
		{Shape: []int{-1}},
		{Shape: []int{-1}, Data: upTo(1)},
		{Shape: []int{-2, -3}, Data: upTo(6)},
		{Shape: []int{0, -1}},
		{Shape: []int{math.MinInt}},
		// A limit is exceeded.
		{Shape: []int{65537}, Data: upTo(65537)},
		{Shape: []int{65537, 0}},
		{Shape: []int{0, 65537}},
		{Shape: []int{256, 257}, Data: upTo(256 * 257)},
		{Shape: slices.Repeat([]int{1}, 17), Data: upTo(1)},
		{Shape: make([]int, 17)},
		{Shape: slices.Repeat([]int{2}, 17), Data: upTo(131072)},
		{Shape: []int{1 << 32, 1 << 32}},
		{Shape: []int{math.MaxInt}},
	}
}

func rightNames() []string {
	return []string{"x", "X", "_", "__", "a1", "A_b_9", "_0", "z", "xx", "x_", "x1", "x10", "abcdefghijklmnopqrstuvwxyz", strings.Repeat("n", 65536), strings.Repeat("n", 65537)}
}

func wrongNames() []string {
	return []string{
		"", "1", "0", "1x", "9_", "¯5", " ", " x", "x ", "x y", "x\t", "x\r", "x\n", "\nx", "x,y", "x←", "←", "↑", "⍬", "(x)", "x[0]", "x.y", "x-y",
		"é", "xé", "Ä", "λ", "x²", "٣", "x٣", "\x00", "x\x00", "\xff", "x\xff", "x\xe2\x86", strings.Repeat("n", 65536) + "-",
	}
}

// letters returns bindings of the names a, b, c, .. to different arrays of different ranks.
func letters(n int) []api.Binding {
	l := make([]api.Binding, n)
	for i := range l {
		k := int64(10 * (i + 1))
		values := []api.Array{scalar(k), vector(k, k+1), {Shape: []int{1, 3}, Data: []int64{k, k + 1, k + 2}}, {Shape: []int{i, 0}}}
		l[i] = api.Binding{Name: string(rune('a' + i)), Value: values[i%len(values)]}
	}
	return l
}

func cloneArray(a api.Array) api.Array {
	return api.Array{Shape: slices.Clone(a.Shape), Data: slices.Clone(a.Data)}
}

// clone copies bindings into lists without unused capacity.
func clone(l []api.Binding) []api.Binding {
	copies := slices.Clone(l)
	for i, b := range copies {
		a := cloneArray(b.Value)
		copies[i].Value = api.Array{Shape: slices.Clip(a.Shape), Data: slices.Clip(a.Data)}
	}
	return copies
}

// with returns bindings of which one is another one.
func with(l []api.Binding, place int, b api.Binding) []api.Binding {
	l = clone(l)
	l[place] = b
	return l
}

func sameArray(a, b api.Array) bool {
	return slices.Equal(a.Shape, b.Shape) && slices.Equal(a.Data, b.Data)
}

func sameBinding(a, b api.Binding) bool { return a.Name == b.Name && sameArray(a.Value, b.Value) }

func same(a, b []api.Binding) bool { return slices.EqualFunc(a, b, sameBinding) }

func namesOf(l []api.Binding) []string {
	var names []string
	for _, b := range l {
		names = append(names, b.Name)
	}
	return names
}

// short makes a failure readable that shows long lists.
func short(x any) string {
	s := fmt.Sprint(x)
	if len(s) > 300 {
		return s[:300] + ".."
	}
	return s
}

// checkUnbound checks that a name is not bound.
func checkUnbound(t *testing.T, e *env.Env, name string) {
	t.Helper()
	if a, ok := e.Get(name); len(a.Shape)+len(a.Data) != 0 || ok {
		t.Fatalf("Get(%s) = %s, %v; want a zero Array and false", short(name), short(a), ok)
	}
	if s, ok := e.Shape(name); len(s) != 0 || ok {
		t.Fatalf("Shape(%s) = %s, %v; want nothing and false", short(name), short(s), ok)
	}
}

// check checks that an environment has bindings, and no others.
func check(t *testing.T, e *env.Env, want []api.Binding) {
	t.Helper()
	if e == nil {
		t.Fatalf("there is no environment; want %s", short(want))
	}
	if got := e.Names(); !slices.Equal(got, namesOf(want)) {
		t.Fatalf("Names = %s; want %s", short(got), short(namesOf(want)))
	}
	if got := e.List(); !same(got, want) {
		t.Fatalf("List = %s; want %s", short(got), short(want))
	}
	for _, b := range want {
		if a, ok := e.Get(b.Name); !sameArray(a, b.Value) || !ok {
			t.Fatalf("Get(%s) = %s, %v; want %s", short(b.Name), short(a), ok, short(b.Value))
		}
		if s, ok := e.Shape(b.Name); !slices.Equal(s, b.Value.Shape) || !ok {
			t.Fatalf("Shape(%s) = %s, %v; want %s", short(b.Name), short(s), ok, short(b.Value.Shape))
		}
	}
	for _, name := range slices.Concat([]string{"a", "b", "c", "d", "e", "B"}, rightNames(), wrongNames()) {
		if !slices.Contains(namesOf(want), name) {
			checkUnbound(t, e, name)
		}
	}
}

// newEnv returns the environment of a right list.
func newEnv(t *testing.T, l []api.Binding) *env.Env {
	t.Helper()
	e, why := env.New(l)
	if e == nil || why != api.OK {
		t.Fatalf("New(%s) = %v, %d; want an environment", short(l), e, why)
	}
	return e
}

// bind returns the environment with a right binding more.
func bind(t *testing.T, e *env.Env, name string, a api.Array) *env.Env {
	t.Helper()
	bound, why := e.Bind(name, a)
	if bound == nil || why != api.OK {
		t.Fatalf("Bind(%s, %s) = %v, %d; want an environment", short(name), short(a), bound, why)
	}
	return bound
}

// checkNoNew checks that a list has no environment.
func checkNoNew(t *testing.T, l []api.Binding) {
	t.Helper()
	if e, why := env.New(l); e != nil || why != api.ErrEnv {
		t.Fatalf("New(%s) = %v, %d; want nil and the error %d", short(l), e, why, api.ErrEnv)
	}
}

// checkNoBind checks that an environment with bindings refuses another one, and stays as it is.
func checkNoBind(t *testing.T, e *env.Env, l []api.Binding, name string, a api.Array) {
	t.Helper()
	if bound, why := e.Bind(name, a); bound != nil || why != api.ErrEnv {
		t.Fatalf("Bind(%s, %s) = %v, %d; want nil and the error %d", short(name), short(a), bound, why, api.ErrEnv)
	}
	check(t, e, l)
}

// after returns the bindings behind a Bind, by the chapter's words.
func after(l []api.Binding, name string, a api.Array) []api.Binding {
	l = clone(l)
	for i := range l {
		if l[i].Name == name {
			l[i].Value = cloneArray(a)
			return l
		}
	}
	return append(l, api.Binding{Name: name, Value: cloneArray(a)})
}

func TestNew(t *testing.T) {
	check(t, newEnv(t, nil), nil)
	check(t, newEnv(t, []api.Binding{}), nil)
	for n := range 20 {
		l := letters(n)
		check(t, newEnv(t, l), l)
		slices.Reverse(l)
		check(t, newEnv(t, l), l)
	}
	// Names that are similar are different, and names may have the same array.
	var l []api.Binding
	for _, name := range rightNames() {
		l = append(l, api.Binding{Name: name, Value: vector(1, 2)})
	}
	check(t, newEnv(t, l), l)
}

func TestArrays(t *testing.T) {
	none := newEnv(t, nil)
	for _, a := range rightArrays() {
		l := []api.Binding{{Name: "x", Value: a}}
		check(t, newEnv(t, l), l)
		check(t, bind(t, none, "x", a), l)
	}
	for _, a := range wrongArrays() {
		checkNoNew(t, []api.Binding{{Name: "x", Value: a}})
		checkNoBind(t, none, nil, "x", a)
		checkNoBind(t, none, nil, "", a)
	}
}

func TestNames(t *testing.T) {
	none, a := newEnv(t, nil), vector(5, 6)
	for _, name := range rightNames() {
		l := []api.Binding{{Name: name, Value: a}}
		check(t, newEnv(t, l), l)
		check(t, bind(t, none, name, a), l)
	}
	for _, name := range wrongNames() {
		checkNoNew(t, []api.Binding{{Name: name, Value: a}})
		checkNoBind(t, none, nil, name, a)
	}
}

// A wrong binding makes a list wrong, wherever it is.
func TestListsWithAWrongBinding(t *testing.T) {
	for n := 1; n <= 5; n++ {
		l := letters(n)
		for place := range l {
			for _, name := range wrongNames() {
				checkNoNew(t, with(l, place, api.Binding{Name: name, Value: vector(1)}))
			}
			for _, a := range wrongArrays() {
				checkNoNew(t, with(l, place, api.Binding{Name: l[place].Name, Value: a}))
				checkNoNew(t, with(l, place, api.Binding{Name: "1", Value: a}))
			}
			for other := range place {
				checkNoNew(t, with(l, place, l[other])) // the whole binding twice
				checkNoNew(t, with(l, place, api.Binding{Name: l[other].Name, Value: l[place].Value}))
				checkNoNew(t, with(l, place, api.Binding{Name: l[other].Name}))
			}
		}
		for place := range n - 1 {
			for other := place + 1; other < n; other++ { // a wrong array in front of a right one with the same name
				checkNoNew(t, with(l, place, api.Binding{Name: l[other].Name}))
			}
		}
	}
	// A name thrice, and all of the bindings wrong.
	x := api.Binding{Name: "x", Value: vector(1)}
	checkNoNew(t, []api.Binding{x, x, x})
	checkNoNew(t, []api.Binding{{}, {}, {}})
}

func TestExample(t *testing.T) {
	e := newEnv(t, []api.Binding{{Name: "x", Value: vector(5, 6)}, {Name: "y", Value: vector(7)}})
	bound := bind(t, e, "x", scalar(3))
	if names := bound.Names(); !slices.Equal(names, []string{"x", "y"}) {
		t.Errorf("Names = %v; want x and y", names)
	}
	check(t, bound, []api.Binding{{Name: "x", Value: scalar(3)}, {Name: "y", Value: vector(7)}})
	check(t, e, []api.Binding{{Name: "x", Value: vector(5, 6)}, {Name: "y", Value: vector(7)}})
}

// A name that is bound stays in its place, and another one comes behind all others.
func TestBind(t *testing.T) {
	for n := range 6 {
		l := letters(n)
		e := newEnv(t, l)
		for _, a := range rightArrays() {
			for _, b := range l {
				check(t, bind(t, e, b.Name, a), after(l, b.Name, a))
				check(t, bind(t, e, b.Name, b.Value), l)
			}
			for _, name := range []string{"z", "A", "_", "aa", "x_1"} {
				check(t, bind(t, e, name, a), append(clone(l), api.Binding{Name: name, Value: a}))
			}
		}
		check(t, e, l)
	}
}

func TestWrongBindings(t *testing.T) {
	for n := range 5 {
		l := letters(n)
		e := newEnv(t, l)
		for _, name := range wrongNames() {
			checkNoBind(t, e, l, name, vector(1))
			checkNoBind(t, e, l, name, wrongArrays()[0])
		}
		for _, a := range wrongArrays() {
			for _, name := range append(namesOf(l), "new") {
				checkNoBind(t, e, l, name, a)
			}
		}
		// What was refused leaves no trace in what is bound next.
		check(t, bind(t, e, "new", vector(2)), append(clone(l), api.Binding{Name: "new", Value: vector(2)}))
	}
}

// Environments that are bound from the same one know nothing of one another.
func TestSiblings(t *testing.T) {
	for n := range 10 {
		l := letters(n)
		envs, lists := []*env.Env{newEnv(t, l)}, [][]api.Binding{l}
		for _, x := range []struct {
			from int
			name string
			a    api.Array
		}{
			{0, "x", vector(1)}, {0, "y", vector(2, 3)}, {0, "y", scalar(4)}, {0, "x", vector()},
			{1, "z", scalar(5)}, {1, "y", scalar(6)}, {1, "x", scalar(7)}, {1, "z", vector(8)},
			{5, "w", scalar(9)}, {5, "v", scalar(10)}, {5, "x", scalar(11)}, {6, "x", scalar(12)},
		} {
			envs = append(envs, bind(t, envs[x.from], x.name, x.a))
			lists = append(lists, after(lists[x.from], x.name, x.a))
			for i, e := range envs {
				check(t, e, lists[i])
			}
		}
	}
}

// Environments are bound from any earlier ones, and all of them are compared with lists in the end.
func TestRandomEnvironments(t *testing.T) {
	source := rand.New(rand.NewPCG(11, 11))
	arrays := slices.DeleteFunc(append(rightArrays(), wrongArrays()...), func(a api.Array) bool { return len(a.Data) > 100 })
	names := []string{"a", "b", "c", "d", "e", "f", "g", "h", "1", "", "a b"}
	for range 40 {
		l := letters(source.IntN(5))
		envs, lists := []*env.Env{newEnv(t, l)}, [][]api.Binding{l}
		for range 50 {
			at := source.IntN(len(envs))
			name, a := names[source.IntN(len(names))], cloneArray(arrays[source.IntN(len(arrays))])
			if len(name) != 1 || name == "1" || !rightArray(a) {
				checkNoBind(t, envs[at], lists[at], name, a)
				continue
			}
			envs = append(envs, bind(t, envs[at], name, a))
			lists = append(lists, after(lists[at], name, a))
			spoilArray(a)
		}
		for i, e := range envs {
			check(t, e, lists[i])
		}
	}
}

// rightArray reports whether one of the arrays above is right, without a call of the other layers.
func rightArray(a api.Array) bool {
	return slices.ContainsFunc(rightArrays(), func(b api.Array) bool { return sameArray(a, b) })
}

// Random lists of bindings have an environment only if all of them are right, and their names differ.
func TestRandomLists(t *testing.T) {
	source := rand.New(rand.NewPCG(12, 12))
	names := []string{"a", "b", "c", "d", "e", "f", "g", "h", "i", "j", "k", "1"}
	for range 20000 {
		l, right, seen := letters(source.IntN(7)), true, map[string]bool{}
		for i := range l {
			l[i].Name = names[source.IntN(len(names))]
			if source.IntN(20) == 0 {
				l[i].Value.Data = append(slices.Clone(l[i].Value.Data), 1)
				right = false
			}
			if l[i].Name == "1" || seen[l[i].Name] {
				right = false
			}
			seen[l[i].Name] = true
		}
		if right {
			check(t, newEnv(t, l), l)
		} else {
			checkNoNew(t, l)
		}
	}
}

func TestManyBindings(t *testing.T) {
	const many = 3000
	var l []api.Binding
	for i := range many {
		l = append(l, api.Binding{Name: "n" + strconv.Itoa(many-i), Value: vector(int64(i))})
	}
	check(t, newEnv(t, l), l)
	checkNoNew(t, append(clone(l), api.Binding{Name: l[0].Name, Value: vector(1)}))
	checkNoNew(t, append(clone(l), api.Binding{Name: l[many-1].Name, Value: vector(1)}))
	e := newEnv(t, nil)
	for _, b := range l {
		e = bind(t, e, b.Name, b.Value)
	}
	check(t, e, l)
	for i := range l {
		l[i].Value = vector(int64(i), 1)
		e = bind(t, e, l[i].Name, l[i].Value)
	}
	check(t, e, l)
}

func TestNil(t *testing.T) {
	var e *env.Env
	for _, name := range append(rightNames(), wrongNames()...) {
		checkUnbound(t, e, name)
		for _, a := range []api.Array{scalar(1), vector(1, 2), {Shape: []int{0}}, {}, {Shape: []int{-1}}, {Shape: []int{65537}}} {
			if bound, why := e.Bind(name, a); bound != nil || why != api.ErrArg {
				t.Fatalf("Bind(%s, %v) = %v, %d; want nil and the error %d", short(name), a, bound, why, api.ErrArg)
			}
		}
	}
	if l := e.Names(); len(l) != 0 {
		t.Errorf("Names = %v; want nothing", l)
	}
	if l := e.List(); len(l) != 0 {
		t.Errorf("List = %v; want nothing", l)
	}
}

// spoil changes a list, and the unused capacity behind it.
func spoil[T int | int64](l []T) {
	for i := range l[:cap(l)] {
		l[:cap(l)][i] = T(1000 + i)
	}
}

func spoilArray(a api.Array) {
	spoil(a.Shape)
	spoil(a.Data)
}

func spoilBindings(l []api.Binding) {
	l = l[:cap(l)]
	for i, b := range l {
		spoilArray(b.Value)
		l[i] = api.Binding{Name: "spoilt", Value: vector(9, 9, 9)}
	}
}

func TestArgumentsAreChangedBehindACall(t *testing.T) {
	for n := range 6 {
		l := letters(n)
		argument := clone(l)
		e := newEnv(t, argument)
		spoilBindings(argument)
		check(t, e, l)
		for _, name := range append(namesOf(l), "x") {
			a := vector(1, 2, 3)
			f := bind(t, e, name, a)
			spoilArray(a)
			check(t, f, after(l, name, vector(1, 2, 3)))
			check(t, e, l)
		}
	}
	for _, a := range rightArrays() {
		l := []api.Binding{{Name: "x", Value: a}}
		argument, none := clone(l), newEnv(t, nil)
		made, bound := newEnv(t, argument), bind(t, none, "x", argument[0].Value)
		spoilBindings(argument)
		check(t, made, l)
		check(t, bound, l)
	}
}

// spoilResults changes all that the methods of an environment return.
func spoilResults(e *env.Env) {
	for _, name := range e.Names() {
		a, _ := e.Get(name)
		spoilArray(a)
		s, _ := e.Shape(name)
		spoil(s)
	}
	names := e.Names()
	names = names[:cap(names)]
	for i := range names {
		names[i] = "spoilt"
	}
	spoilBindings(e.List())
}

func TestResultsAreChanged(t *testing.T) {
	for n := range 6 {
		l := letters(n)
		for _, a := range rightArrays() {
			l = append(l[:n], api.Binding{Name: "x", Value: a})
			e := newEnv(t, l)
			f, g, h := bind(t, e, "x", vector(1)), bind(t, e, "y", vector(2)), bind(t, e, "x", a)
			all, lists := []*env.Env{e, f, g, h}, [][]api.Binding{l, after(l, "x", vector(1)), after(l, "y", vector(2)), l}
			for _, changed := range all {
				spoilResults(changed)
				for i, e := range all {
					check(t, e, lists[i])
				}
			}
		}
	}
}

// The arrays and shapes that are returned share no memory with one another.
func TestResultsAreApart(t *testing.T) {
	a := api.Array{Shape: []int{2, 3}, Data: upTo(6)}
	l := []api.Binding{{Name: "x", Value: a}, {Name: "y", Value: a}}
	e := newEnv(t, l)
	e = bind(t, e, "z", a)
	results := func() []api.Array {
		x, _ := e.Get("x")
		again, _ := e.Get("x")
		s, _ := e.Shape("x")
		all := []api.Array{x, again, {Shape: s, Data: upTo(6)}}
		for _, b := range slices.Concat(e.List(), e.List()) {
			all = append(all, b.Value)
		}
		return all
	}
	for i, changed := range results() {
		all := results()
		spoilArray(changed)
		spoilArray(all[i])
		for k, b := range all {
			if k != i && !sameArray(b, a) {
				t.Errorf("the result %d changes with the result %d", k, i)
			}
		}
	}
	check(t, e, append(l, api.Binding{Name: "z", Value: a}))
}

// The arguments stay as they are, and so does the unused capacity of their lists.
func TestArgumentsStay(t *testing.T) {
	roomy := func(a api.Array) api.Array {
		s, data := append(slices.Clone(a.Shape), 91, 92), append(slices.Clone(a.Data), 93, 94)
		return api.Array{Shape: s[:len(a.Shape)], Data: data[:len(a.Data)]}
	}
	for _, a := range append(rightArrays(), wrongArrays()...) {
		for n := range 4 {
			l := append(letters(n), api.Binding{Name: "x", Value: roomy(a)}, api.Binding{Name: "w", Value: vector(8)}, api.Binding{Name: "w", Value: vector(9)})
			whole := clone(l)
			if e, _ := env.New(l[:n+1]); e != nil {
				e.Bind("w", l[n].Value)
			}
			env.New(l)
			if !same(l, whole) {
				t.Fatalf("the bindings are %s; want %s", short(l), short(whole))
			}
			e := newEnv(t, l[:n])
			e.Bind("a", l[n].Value)
			e.Bind("x", l[n].Value)
			s, data := l[n].Value.Shape, l[n].Value.Data
			if !same(l, whole) || !slices.Equal(s[len(s):len(s)+2], []int{91, 92}) || !slices.Equal(data[len(data):len(data)+2], []int64{93, 94}) {
				t.Fatalf("the bindings are %s; want %s and unused capacity as before", short(l), short(whole))
			}
		}
	}
}

// A name may be a part of a long text, which an environment must not retain.
func TestTextsAreNotRetained(t *testing.T) {
	const length, many = 1 << 20, 256
	part := func(i int) string {
		return ("n" + strconv.Itoa(i) + strings.Repeat("-", length))[:len("n"+strconv.Itoa(i))]
	}
	used := func() int {
		var memory runtime.MemStats
		runtime.GC()
		runtime.ReadMemStats(&memory)
		return int(memory.HeapAlloc)
	}
	before := used()
	l := make([]api.Binding, many)
	for i := range l {
		l[i] = api.Binding{Name: part(i), Value: scalar(int64(i))}
	}
	e := newEnv(t, l)
	l = nil
	for i := range many {
		e = bind(t, e, part(many+i), scalar(1))
		e = bind(t, e, part(i), scalar(2)) // bound again
	}
	if more := used() - before; more > many*length/4 {
		t.Errorf("an environment of %d names retains %d bytes", 2*many, more)
	}
	if n := len(e.Names()); n != 2*many {
		t.Errorf("there are %d names; want %d", n, 2*many)
	}
}

// Environments that are bound from one another may be used at the same time.
func TestConcurrentCalls(t *testing.T) {
	l := letters(5)
	e := newEnv(t, l)
	envs := []*env.Env{e}
	for i := range 8 {
		envs = append(envs, bind(t, envs[i], "x"+strconv.Itoa(i), scalar(int64(i))))
	}
	var group sync.WaitGroup
	for i, e := range envs {
		group.Go(func() {
			for k := range 100 {
				a := vector(int64(i), int64(k))
				f, why := e.Bind("b", a)
				if why != api.OK {
					t.Error(why)
					return
				}
				spoilArray(a)
				spoilResults(f)
				if got := f.List(); len(got) != 5+i || !same(got[:5], after(l, "b", vector(int64(i), int64(k)))) {
					t.Errorf("List = %v", got)
				}
				if got := e.List(); len(got) != 5+i || !same(got[:5], l) {
					t.Errorf("List = %v", got)
				}
			}
		})
	}
	group.Wait()
}

// useAll calls all methods of an environment.
func useAll(e *env.Env) {
	for _, name := range []string{"", "a", "b", "x", "1"} {
		e.Get(name)
		e.Shape(name)
		for _, a := range []api.Array{scalar(1), vector(1, 2), {}, {Shape: []int{-1}}} {
			if f, _ := e.Bind(name, a); f != nil && f != e {
				f.Bind("y", a)
				f.Get("y")
				f.List()
			}
		}
	}
	e.Names()
	e.List()
}

// Environments that the package's functions did not make, and copies of others, are unspecified, but the calls return.
func TestOpenArguments(t *testing.T) {
	useAll(&env.Env{})
	useAll(new(env.Env))
	e := newEnv(t, letters(2))
	f := *e
	useAll(&f)
	f = env.Env{}
	useAll(&f)
	check(t, e, letters(2))
}
