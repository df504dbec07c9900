package tree_test

import (
	"fmt"
	"iter"
	"math"
	"math/rand/v2"
	"slices"
	"strconv"
	"strings"
	"testing"

	"intarsia/api"
	"intarsia/tree"
)

// The numbers of the chapter.
const (
	take, drop, reverse, transpose, reshape, ravel = 1, 2, 3, 4, 5, 6

	literalKind, nameKind, monadKind, dyadKind = 1, 2, 3, 4
)

func literal(nums ...int64) api.Tree {
	return api.Tree{Kind: literalKind, Axis: -1, Nums: nums}
}

func name(s string) api.Tree { return api.Tree{Kind: nameKind, Axis: -1, Name: s} }

func monad(fn, axis int, right api.Tree) api.Tree {
	return api.Tree{Kind: monadKind, Fn: fn, Axis: axis, Kids: []api.Tree{right}}
}

func dyad(fn, axis int, left, right api.Tree) api.Tree {
	return api.Tree{Kind: dyadKind, Fn: fn, Axis: axis, Kids: []api.Tree{left, right}}
}

func join(left, right api.Tree) api.Tree { return dyad(ravel, -1, left, right) }

// example is the tree of (⌽a),[0]b↑c,b.
func example() api.Tree {
	return dyad(ravel, 0, monad(reverse, -1, name("a")), dyad(take, -1, name("b"), join(name("c"), name("b"))))
}

// text tells all that a tree has; nil and empty lists have the same text.
func text(t api.Tree) string {
	var s strings.Builder
	write(&s, t)
	return s.String()
}

func write(s *strings.Builder, t api.Tree) {
	fmt.Fprintf(s, "%d %d %d %q %v{", t.Kind, t.Fn, t.Axis, t.Name, t.Nums)
	for _, kid := range t.Kids {
		write(s, kid)
	}
	s.WriteByte('}')
}

func texts(l []api.Tree) []string {
	result := make([]string, len(l))
	for i, t := range l {
		result[i] = text(t)
	}
	return result
}

// short returns the text of a tree, cut off where it is too long to be printed.
func short(t api.Tree) string {
	s := text(t)
	if len(s) > 300 {
		return s[:300] + ".. of " + strconv.Itoa(len(s)) + " bytes"
	}
	return s
}

func checkRight(t *testing.T, x api.Tree, want bool) {
	t.Helper()
	if tree.Right(x) != want {
		t.Fatalf("Right(%s) = %v", short(x), !want)
	}
}

// clone copies a tree without the functions that are tested; its lists have no unused capacity.
func clone(t api.Tree) api.Tree {
	t.Nums = slices.Clip(slices.Clone(t.Nums))
	t.Kids = slices.Clip(slices.Clone(t.Kids))
	for i, kid := range t.Kids {
		t.Kids[i] = clone(kid)
	}
	return t
}

// places returns pointers to all nodes of a tree, each node in front of those of its Kids.
func places(t *api.Tree) []*api.Tree {
	l := []*api.Tree{t}
	for i := range t.Kids {
		l = append(l, places(&t.Kids[i])...)
	}
	return l
}

// forms are the nodes that the chapter's table permits, by all that form tells of them.
func forms() map[string]bool {
	l := map[string]bool{}
	add := func(kind, fn, axis, kids, left int, name string) {
		l[fmt.Sprint(kind, fn, axis, kids, left, name)] = true
	}
	add(literalKind, 0, -1, 0, 0, "-")
	add(nameKind, 0, -1, 0, 0, "a name")
	add(monadKind, reverse, -1, 1, 0, "-")
	add(monadKind, transpose, -1, 1, 0, "-")
	add(monadKind, ravel, -1, 1, 0, "-")
	for axis := 0; axis <= 15; axis++ {
		add(monadKind, reverse, axis, 1, 0, "-")
	}
	for _, left := range []int{literalKind, nameKind} {
		for _, fn := range []int{take, drop, reverse, transpose, reshape} {
			add(dyadKind, fn, -1, 2, left, "-")
		}
		for axis := 0; axis <= 15; axis++ {
			add(dyadKind, reverse, axis, 2, left, "-")
		}
	}
	for _, left := range []int{literalKind, nameKind, monadKind, dyadKind} {
		for axis := -1; axis <= 15; axis++ {
			add(dyadKind, ravel, axis, 2, left, "-")
		}
	}
	return l
}

// form tells of a node what the chapter's table speaks of; the names that are tried here are names if they begin with an x.
func form(t api.Tree) string {
	left, kids, word := 0, len(t.Kids), "-"
	if kids == 2 {
		left = t.Kids[0].Kind
	}
	if t.Name != "" {
		word = "no name"
	}
	if strings.HasPrefix(t.Name, "x") {
		word = "a name"
	}
	if len(t.Nums) > 0 && t.Kind != literalKind {
		word = "numbers"
	}
	return fmt.Sprint(t.Kind, t.Fn, t.Axis, kids, left, word)
}

// All nodes are tried that can be made of the values of each field around those that are permitted.
func TestRightForEachNode(t *testing.T) {
	permitted := forms()
	x, five, turned, joined := name("x"), literal(5), monad(reverse, 0, name("x")), join(name("x"), name("x"))
	kids := [][]api.Tree{nil, {}, {x}, {five}, {turned}, {joined}, {x, x}, {five, x}, {turned, x}, {joined, x}, {x, turned}, {five, joined}, {turned, joined}, {joined, turned}, {x, x, x}, {five, x, turned, joined}}
	wide := []int{math.MinInt, -17, -2, -1, 0, 1, 2, 3, 4, 5, 6, 7, 8, 14, 15, 16, 17, math.MaxInt}
	right := 0
	for _, kind := range append(wide[3:9:9], math.MinInt, math.MaxInt, 1<<32+1, 1<<8+2) {
		for _, fn := range append(wide[3:13:13], math.MinInt, math.MaxInt, 1<<32+3, 1<<8+6) {
			for _, axis := range append(wide, 1<<32, 1<<32-1) {
				for _, word := range []string{"", "x", "1"} {
					for _, nums := range [][]int64{nil, {}, {0}, {1, 2}} {
						for _, kids := range kids {
							node := api.Tree{Kind: kind, Fn: fn, Axis: axis, Name: word, Nums: nums, Kids: kids}
							want := permitted[form(node)]
							checkRight(t, node, want)
							if want {
								right++
							}
						}
					}
				}
			}
		}
	}
	if right == 0 {
		t.Fatal("no right tree was tried")
	}
}

func TestRightForLiterals(t *testing.T) {
	for _, nums := range [][]int64{nil, {}, {0}, {-1}, {7, 8}, {math.MinInt64, 0, math.MaxInt64}, make([]int64, 65537)} {
		checkRight(t, literal(nums...), true)
		checkRight(t, dyad(take, -1, literal(nums...), literal(nums...)), true)
	}
}

func TestRightForNames(t *testing.T) {
	for _, s := range []string{"x", "A", "z", "_", "x1", "_1", "a_b", "x0123456789", "ABC_xyz", strings.Repeat("x", 65536)} {
		checkRight(t, name(s), true)
		checkRight(t, dyad(drop, -1, name(s), name(s)), true)
	}
	for _, s := range []string{"", " ", "1", "1x", "¯1", "x ", " x", "x y", "x,", "⍬", "↑", "(x)", "x-y", "é", "xé", "α", "x\n", "\xff", "x\x00"} {
		checkRight(t, name(s), false)
		checkRight(t, dyad(drop, -1, name(s), name("x")), false)
		checkRight(t, monad(ravel, -1, name(s)), false)
	}
}

func TestRightForFunctions(t *testing.T) {
	x, five := name("x"), literal(5)
	turned, joined := monad(reverse, -1, x), join(x, x)
	for fn := -1; fn <= 8; fn++ {
		for _, axis := range []int{math.MinInt, -3, -2, -1, 0, 1, 14, 15, 16, 17, math.MaxInt} {
			none, some := axis == -1, -1 <= axis && axis <= 15
			one := fn == reverse && some || (fn == transpose || fn == ravel) && none
			for _, kid := range []api.Tree{x, five, turned, joined} {
				checkRight(t, monad(fn, axis, kid), one)
				two := (fn == reverse || fn == ravel) && some || (fn == take || fn == drop || fn == transpose || fn == reshape) && none
				checkRight(t, dyad(fn, axis, x, kid), two)
				checkRight(t, dyad(fn, axis, five, kid), two)
				checkRight(t, dyad(fn, axis, turned, kid), fn == ravel && some)
				checkRight(t, dyad(fn, axis, joined, kid), fn == ravel && some)
			}
		}
	}
}

// wrongNodes returns variants of a well-formed node, each with one field that its kind does not have or that is out of its range.
func wrongNodes(t api.Tree) []api.Tree {
	var l []api.Tree
	add := func(change func(t *api.Tree)) {
		wrong := clone(t)
		change(&wrong)
		l = append(l, wrong)
	}
	for _, kind := range []int{-1, 0, 5, 1 << 40} {
		add(func(t *api.Tree) { t.Kind = kind })
	}
	for _, fn := range []int{-1, 7, 1<<32 + 3} {
		add(func(t *api.Tree) { t.Fn = fn })
	}
	for _, axis := range []int{math.MinInt, -2, 16, math.MaxInt} {
		add(func(t *api.Tree) { t.Axis = axis })
	}
	add(func(t *api.Tree) { t.Name += " " })
	add(func(t *api.Tree) { t.Kids = append(t.Kids, name("x")) })
	if t.Kind != literalKind {
		add(func(t *api.Tree) { t.Nums = []int64{0} })
	}
	if t.Kind == literalKind || t.Kind == nameKind {
		add(func(t *api.Tree) { t.Fn = reverse })
		add(func(t *api.Tree) { t.Axis = 0 })
		add(func(t *api.Tree) { t.Kids = []api.Tree{name("x")} })
	} else {
		add(func(t *api.Tree) { t.Fn = 0 })
		add(func(t *api.Tree) { t.Name = "x" })
		add(func(t *api.Tree) { t.Kids = t.Kids[1:] })
		add(func(t *api.Tree) { t.Kids = nil })
	}
	if t.Kind == nameKind {
		add(func(t *api.Tree) { t.Name = "" })
	}
	return l
}

// A tree is not right as soon as one of its nodes is wrong, wherever that is.
func TestRightWithAWrongNode(t *testing.T) {
	for _, x := range rightTrees() {
		checkRight(t, x, true)
		if tree.Size(x) > 60 {
			continue
		}
		for i, node := range places(&x) {
			for _, wrong := range wrongNodes(*node) {
				changed := clone(x)
				*places(&changed)[i] = wrong
				checkRight(t, changed, false)
			}
		}
		checkRight(t, x, true)
	}
}

// chains are trees of a depth around a bottom: monads, and dyads with the bottom on the left or on the right.
func chains(depth int, bottom api.Tree) []api.Tree {
	leaf := name("x")
	l := []api.Tree{bottom, bottom, bottom, bottom, bottom}
	for i := range depth - 1 {
		l[0] = monad(ravel, -1, l[0])
		l[1] = monad(reverse, i%17-1, l[1])
		l[2] = join(l[2], leaf)
		l[3] = join(leaf, l[3])
		l[4] = dyad(take, -1, literal(2), l[4])
	}
	return l
}

func TestDepths(t *testing.T) {
	for _, depth := range []int{1, 2, 3, 50, 98, 99, 100, 101, 102, 150, 256, 999, 1000} {
		for i, x := range chains(depth, literal(7)) {
			checkRight(t, x, depth <= 100)
			if tree.Depth(x) != depth {
				t.Errorf("depth %d of the chain %d of depth %d", tree.Depth(x), i, depth)
			}
			if size := depth + min(i/2, 1)*(depth-1); tree.Size(x) != size {
				t.Errorf("size %d of the chain %d of depth %d", tree.Size(x), i, depth)
			}
		}
		for _, wrong := range append(wrongNodes(name("x")), api.Tree{}) {
			for _, x := range chains(depth, wrong) {
				checkRight(t, x, false)
			}
		}
	}
	// The tree is too deep by its left operand, or by its right one, only.
	for _, deep := range chains(100, name("x")) {
		checkRight(t, deep, true)
		checkRight(t, join(name("x"), deep), false)
		checkRight(t, join(deep, name("x")), false)
		checkRight(t, join(deep, deep), false)
	}
}

// variants are the trees with each of these Kids that have one of a few values in each other field; most are not right.
func variants(kids ...[]api.Tree) []api.Tree {
	var l []api.Tree
	for _, kids := range kids {
		for _, nums := range [][]int64{nil, {0}, {1}, {0, 0}, {0, 1}} {
			for _, s := range []string{"", "x", "1"} {
				for _, n := range [][3]int{{0, 0, 0}, {1, 0, 0}, {0, 1, 0}, {0, 0, 1}} {
					l = append(l, api.Tree{Kind: n[0], Fn: n[1], Axis: n[2], Name: s, Nums: nums, Kids: kids})
				}
			}
		}
	}
	return l
}

// Of all pairs of different trees, none is the same.
func TestSame(t *testing.T) {
	leaves := variants(nil)
	kids := [][]api.Tree{nil}
	for _, a := range leaves[:8] {
		kids = append(kids, []api.Tree{a}, []api.Tree{a, leaves[0]}, []api.Tree{a, leaves[1]})
	}
	kids = append(kids, []api.Tree{{Kids: leaves[:1]}}, []api.Tree{leaves[0], leaves[0], leaves[0]})
	trees := variants(kids...)
	copies := make([]api.Tree, len(trees))
	for i, x := range trees {
		copies[i] = clone(x)
	}
	for i, a := range trees {
		for j, b := range copies {
			if tree.Same(a, b) != (i == j) {
				t.Fatalf("Same(%s, %s) = %v", text(a), text(b), i != j)
			}
		}
	}
}

// changes are the changes of one field of a node.
func changes() []func(t *api.Tree) {
	return []func(t *api.Tree){
		func(t *api.Tree) { t.Kind++ },
		func(t *api.Tree) { t.Fn += 1 << 40 },
		func(t *api.Tree) { t.Axis-- },
		func(t *api.Tree) { t.Name += "x" },
		func(t *api.Tree) { t.Nums = append(slices.Clone(t.Nums), 0) },
		func(t *api.Tree) { t.Kids = append(slices.Clone(t.Kids), name("x")) },
		func(t *api.Tree) { t.Kids = append([]api.Tree{name("x")}, t.Kids...) },
		func(t *api.Tree) { slices.Reverse(t.Kids) },
		func(t *api.Tree) {
			for i := range t.Kids {
				t.Kids[i].Kids = append(t.Kids[i].Kids, api.Tree{})
			}
		},
		func(t *api.Tree) {
			for i := range t.Nums {
				t.Nums[i] += 1 << 33
			}
		},
		func(t *api.Tree) {
			if len(t.Nums) > 0 {
				t.Nums = t.Nums[:len(t.Nums)-1]
			}
		},
		func(t *api.Tree) {
			if len(t.Kids) > 0 {
				t.Kids = t.Kids[:len(t.Kids)-1]
			}
		},
	}
}

// Trees differ as soon as one field of one node does.
func TestSameWithOneChange(t *testing.T) {
	for _, x := range append(rightTrees(), oddTrees()...) {
		want := text(x)
		if len(want) > 2000 {
			continue
		}
		for i := range places(&x) {
			for _, change := range changes() {
				y := clone(x)
				change(places(&y)[i])
				same := text(y) == want
				if tree.Same(x, y) != same || tree.Same(y, x) != same {
					t.Fatalf("Same(%s, %s) = %v", want, text(y), !same)
				}
			}
		}
	}
}

func TestSameWithNilAndEmptyLists(t *testing.T) {
	bare := api.Tree{Kind: dyadKind, Fn: ravel, Axis: -1, Kids: []api.Tree{literal(), name("x")}}
	full := clone(bare)
	full.Nums, full.Kids[0].Nums, full.Kids[0].Kids = []int64{}, make([]int64, 0, 5), []api.Tree{}
	full.Kids[1].Nums, full.Kids[1].Kids = []int64{}, make([]api.Tree, 0, 5)
	for _, pair := range [][2]api.Tree{
		{bare, full}, {full, bare}, {full, full}, {literal(), literal([]int64{}...)}, {{Kids: []api.Tree{}}, {}}, {{Nums: []int64{}}, {}},
	} {
		if !tree.Same(pair[0], pair[1]) {
			t.Errorf("Same(%#v, %#v) = false", pair[0], pair[1])
		}
	}
	if !tree.Right(full) || tree.Size(full) != 3 || tree.Depth(full) != 2 || !tree.Same(tree.Copy(full), bare) {
		t.Error("a tree with empty lists is not like that with nil")
	}
}

// A list that begins with the other one, or with other capacity, is not the same list.
func TestSameWithUnusedCapacity(t *testing.T) {
	nums, kids := []int64{1, 2, 3}, []api.Tree{name("x"), name("y"), name("z")}
	if tree.Same(literal(nums[:2]...), literal(nums...)) || !tree.Same(literal(nums[:2]...), literal(1, 2)) {
		t.Error("numbers")
	}
	two := api.Tree{Kids: kids[:2]}
	if tree.Same(two, api.Tree{Kids: kids}) || !tree.Same(two, api.Tree{Kids: []api.Tree{name("x"), name("y")}}) || tree.Size(two) != 3 {
		t.Error("kids")
	}
}

// random makes a tree of at most a depth; without right, its fields are random.
func random(source *rand.Rand, depth int, right bool) api.Tree {
	leaf := func() api.Tree {
		if source.IntN(2) == 0 {
			return name(string("abcdefgh"[source.IntN(8)]))
		}
		nums := make([]int64, source.IntN(4))
		for i := range nums {
			nums[i] = source.Int64N(100) - 50
		}
		return literal(nums...)
	}
	if !right {
		t := leaf()
		t.Kind, t.Fn, t.Axis = source.IntN(6), source.IntN(8), source.IntN(5)-2
		for range source.IntN(4) {
			if depth > 1 {
				t.Kids = append(t.Kids, random(source, depth-1, false))
			}
		}
		return t
	}
	if depth <= 1 || source.IntN(6) == 0 {
		return leaf()
	}
	switch source.IntN(6) {
	case 0:
		return monad([]int{transpose, ravel}[source.IntN(2)], -1, random(source, depth-1, true))
	case 1:
		return monad(reverse, source.IntN(17)-1, random(source, depth-1, true))
	case 2:
		return dyad([]int{take, drop, transpose, reshape}[source.IntN(4)], -1, leaf(), random(source, depth-1, true))
	case 3:
		return dyad(reverse, source.IntN(17)-1, leaf(), random(source, depth-1, true))
	}
	return dyad(ravel, source.IntN(17)-1, random(source, depth-1, true), random(source, depth-1, true))
}

// balanced is a tree of catenations with 2^depth-1 nodes, and different names.
func balanced(depth int, next *int) api.Tree {
	if depth == 1 {
		*next++
		return name("x" + strconv.Itoa(*next))
	}
	left := balanced(depth-1, next)
	return join(left, balanced(depth-1, next))
}

func rightTrees() []api.Tree {
	l := []api.Tree{name("x"), literal(), literal(7), literal(1, 2, 3), example(), dyad(take, -1, literal(2), join(name("x"), name("y")))}
	for fn := take; fn <= ravel; fn++ {
		l = append(l, dyad(fn, -1, name("x"), literal(1, 2)), dyad(fn, -1, literal(3), name("x")))
	}
	for _, axis := range []int{-1, 0, 1, 15} {
		l = append(l, monad(reverse, axis, name("x")), dyad(reverse, axis, name("x"), name("x")), dyad(ravel, axis, example(), example()))
	}
	l = append(l, monad(transpose, -1, example()), monad(ravel, -1, literal()))
	source := rand.New(rand.NewPCG(8, 1))
	for i := range 120 {
		l = append(l, random(source, 1+i%8, true))
	}
	for _, depth := range []int{5, 99, 100} {
		l = append(l, chains(depth, name("a"))...)
	}
	return append(l, balanced(6, new(int)))
}

// oddTrees are not right.
func oddTrees() []api.Tree {
	x := name("x")
	l := []api.Tree{
		{}, {Kind: -1, Fn: -1, Axis: -2}, {Kids: make([]api.Tree, 5)}, {Nums: []int64{1}}, {Name: "1"},
		{Kind: nameKind, Name: "x", Kids: []api.Tree{x, x, literal(1)}},
		{Kind: literalKind, Kids: []api.Tree{{Kids: []api.Tree{{Kids: []api.Tree{x}}, x}}, x, {Kids: []api.Tree{x}}}},
		{Kind: math.MaxInt, Fn: math.MinInt, Axis: math.MaxInt, Name: "\xff ", Nums: []int64{math.MinInt64}},
		monad(ravel, -1, api.Tree{}), dyad(ravel, -1, x, api.Tree{}),
	}
	l = append(l, chains(101, x)...)
	l = append(l, chains(1000, x)...)
	source := rand.New(rand.NewPCG(8, 2))
	for i := range 120 {
		l = append(l, random(source, 1+i%7, false))
	}
	return l
}

func allTrees() []api.Tree { return append(rightTrees(), oddTrees()...) }

// count returns the number of nodes and the depth of a tree by the definition.
func count(t api.Tree) (nodes, depth int) {
	nodes = 1
	for _, kid := range t.Kids {
		n, d := count(kid)
		nodes, depth = nodes+n, max(depth, d)
	}
	return nodes, depth + 1
}

func TestSizeAndDepth(t *testing.T) {
	for _, x := range allTrees() {
		nodes, depth := count(x)
		if tree.Size(x) != nodes || tree.Depth(x) != depth {
			t.Fatalf("%s has the size %d and the depth %d; want %d, %d", short(x), tree.Size(x), tree.Depth(x), nodes, depth)
		}
	}
}

// The functions are specified for 2^20 nodes, and for Kids that are the same memory.
func TestManyNodes(t *testing.T) {
	const most = 1 << 20
	big := balanced(20, new(int)) // of most-1 nodes
	shared := name("x")
	for range 19 {
		shared = join(shared, shared)
	}
	wide := api.Tree{Kids: make([]api.Tree, most-1)}
	deep := api.Tree{Kids: make([]api.Tree, most-999)}
	for range 998 {
		deep = api.Tree{Kids: []api.Tree{deep}}
	}
	for i, x := range []struct {
		t           api.Tree
		size, depth int
		right       bool
	}{
		{monad(ravel, -1, big), most, 21, true},
		{monad(reverse, 15, shared), most, 21, true},
		{chains(82, balanced(19, new(int)))[0], most/2 + 80, 100, true},
		{wide, most, 2, false},
		{deep, most, 1000, false},
	} {
		if size, depth := tree.Size(x.t), tree.Depth(x.t); size != x.size || depth != x.depth {
			t.Errorf("the tree %d has the size %d and the depth %d", i, size, depth)
		}
		if tree.Right(x.t) != x.right {
			t.Errorf("Right of the tree %d is %v", i, !x.right)
		}
		if y := tree.Copy(x.t); !tree.Same(x.t, y) || tree.Size(y) != x.size {
			t.Errorf("the copy of the tree %d is not the same", i)
		}
	}
	if l := tree.Names(big); len(l) != most/2 || l[0] != "x"+strconv.Itoa(most/2) || l[most/2-1] != "x1" {
		t.Errorf("%d names", len(l))
	}
	if l := tree.Names(shared); !slices.Equal(l, []string{"x"}) {
		t.Errorf("%d names", len(l))
	}
	if n := len(slices.Collect(tree.Steps(balanced(14, new(int))))); n != 1<<14-1 {
		t.Errorf("%d steps", n)
	}
	for _, x := range []api.Tree{chains(1000, name("x"))[0], {Kids: chains(999, name("x"))}} {
		if !tree.Same(x, clone(x)) || !tree.Same(tree.Copy(x), x) || tree.Depth(x) != 1000 {
			t.Error("a tree of depth 1000 is not the same as its copy")
		}
	}
}

func TestCopy(t *testing.T) {
	for _, x := range allTrees() {
		if y := tree.Copy(x); text(y) != text(x) || !tree.Same(x, y) {
			t.Fatalf("Copy(%s) = %s", short(x), short(y))
		}
	}
}

// spacious copies a tree with unused capacity in all its lists, which holds marks.
func spacious(t api.Tree) api.Tree {
	nums, kids := slices.Clone(t.Nums), slices.Clone(t.Kids)
	for i, kid := range kids {
		kids[i] = spacious(kid)
	}
	t.Nums = append(nums, 77, 78)[:len(nums)]
	t.Kids = append(kids, name("unused"))[:len(kids)]
	return t
}

// checkUnused checks the marks.
func checkUnused(t *testing.T, x api.Tree) {
	t.Helper()
	for _, node := range places(&x) {
		n, k := len(node.Nums), len(node.Kids)
		if !slices.Equal(node.Nums[n:n+2], []int64{77, 78}) || text(node.Kids[:k+1][k]) != text(name("unused")) {
			t.Fatalf("unused capacity of %s was changed", short(x))
		}
	}
}

// spoil changes all fields, lists and unused capacity of a tree.
func spoil(t *api.Tree) {
	for i := range t.Kids {
		spoil(&t.Kids[i])
	}
	for i := range t.Nums[:cap(t.Nums)] {
		t.Nums[:cap(t.Nums)][i] = -99
	}
	for i := range t.Kids[:cap(t.Kids)] {
		t.Kids[:cap(t.Kids)][i] = literal(9, 9, 9)
	}
	*t = api.Tree{Kind: 9, Fn: 9, Axis: 9, Name: "spoilt"}
}

// A change of a copy, in each field and list of each node, does not change the tree, and the other way round.
func TestChangesOfCopies(t *testing.T) {
	for _, x := range allTrees() {
		want := text(x)
		if len(want) > 2000 {
			continue
		}
		for i := range places(&x) {
			for _, change := range changes() {
				a := clone(x)
				b := tree.Copy(a)
				change(places(&b)[i])
				if text(a) != want {
					t.Fatalf("a change of its copy made %s of %s", text(a), want)
				}
				b = tree.Copy(a)
				change(places(&a)[i])
				if text(b) != want {
					t.Fatalf("a change of the tree made %s of the copy of %s", text(b), want)
				}
			}
		}
	}
}

// No memory is shared between a tree and its copies, or within a copy, even if the tree's Kids are the same memory.
func TestMemoryOfCopies(t *testing.T) {
	for _, x := range allTrees() {
		want := text(x)
		a := spacious(x)
		b, c := tree.Copy(a), tree.Copy(a)
		spoil(&b)
		if text(a) != want || text(c) != want {
			t.Fatalf("a copy of %s shares memory", short(x))
		}
		checkUnused(t, a)
		spoil(&a)
		if text(c) != want {
			t.Fatalf("a copy of %s shares memory", short(x))
		}
	}
	nums := []int64{1, 2}
	kid := monad(reverse, -1, literal(nums...))
	kid.Kids[0].Nums = nums
	x := tree.Copy(api.Tree{Nums: nums, Kids: []api.Tree{kid, kid}})
	x.Nums[0], x.Kids[0].Kids[0].Nums[1] = 8, 9
	x.Kids[0].Kids[0].Fn = 7
	if text(x.Kids[1]) != text(monad(reverse, -1, literal(1, 2))) || x.Nums[1] != 2 || x.Kids[0].Kids[0].Nums[0] != 1 {
		t.Error("the nodes of a copy share memory")
	}
}

// stepsOf lists the nodes of a right tree by the definition.
func stepsOf(t api.Tree) []api.Tree {
	switch len(t.Kids) {
	case 1:
		return append(stepsOf(t.Kids[0]), t)
	case 2:
		return append(append(stepsOf(t.Kids[1]), stepsOf(t.Kids[0])...), t)
	}
	return []api.Tree{t}
}

// some collects the first nodes of an iterator, at most n of them.
func some(l iter.Seq[api.Tree], n int) []api.Tree {
	var nodes []api.Tree
	if n == 0 {
		return nil
	}
	for node := range l {
		nodes = append(nodes, node)
		if len(nodes) == n {
			break
		}
	}
	return nodes
}

func checkNodes(t *testing.T, x api.Tree, l []api.Tree, want []string) {
	t.Helper()
	if !slices.Equal(texts(l), want) {
		t.Fatalf("the steps of %s are %d nodes: %.300q", short(x), len(l), texts(l))
	}
}

func TestStepsOfTheExample(t *testing.T) {
	x, y := name("x"), name("y")
	e := dyad(take, -1, literal(2), join(x, y)) // 2↑x,y
	checkNodes(t, e, some(tree.Steps(e), 9), texts([]api.Tree{y, x, join(x, y), literal(2), e}))
	checkNodes(t, x, some(tree.Steps(x), 9), texts([]api.Tree{x}))
	e = monad(transpose, -1, literal(7))
	checkNodes(t, e, some(tree.Steps(e), 9), texts([]api.Tree{literal(7), e}))
}

func TestSteps(t *testing.T) {
	for _, x := range rightTrees() {
		want := texts(stepsOf(x))
		steps := tree.Steps(x)
		checkNodes(t, x, some(steps, -1), want)
		checkNodes(t, x, some(steps, -1), want) // again
		if len(want) != tree.Size(x) {
			t.Fatalf("the size of %s is %d", short(x), tree.Size(x))
		}
	}
}

// Loops that are left early get what was yielded before, and the next loop starts again.
func TestStepsOfLoopsLeftEarly(t *testing.T) {
	for _, x := range rightTrees() {
		want := texts(stepsOf(x))
		if len(want) > 80 {
			continue
		}
		steps := tree.Steps(x)
		for n := range len(want) + 1 {
			checkNodes(t, x, some(steps, n), want[:n])
		}
		checkNodes(t, x, some(steps, -1), want)
	}
}

// After a false, an iterator does not call yield again.
func TestStepsAfterAFalse(t *testing.T) {
	for _, x := range rightTrees() {
		size := tree.Size(x)
		for _, last := range []int{1, 2, size/2 + 1, size} {
			calls := 0
			tree.Steps(x)(func(api.Tree) bool {
				calls++
				return calls < last
			})
			if calls != min(last, size) {
				t.Fatalf("%d calls of yield for %s; want %d", calls, short(x), min(last, size))
			}
		}
	}
}

// Loops over the same steps may be nested, and take turns.
func TestStepsOfSeveralLoops(t *testing.T) {
	x := example()
	steps := tree.Steps(x)
	want := texts(stepsOf(x))
	var outer []api.Tree
	for node := range steps {
		outer = append(outer, node)
		checkNodes(t, x, some(steps, len(outer)), want[:len(outer)])
	}
	checkNodes(t, x, outer, want)
	nextA, stopA := iter.Pull(steps)
	nextB, stopB := iter.Pull(steps)
	defer stopA()
	defer stopB()
	for i, s := range want {
		a, okA := nextA()
		if i > 2 {
			b, okB := nextB()
			if !okB || text(b) != want[i-3] {
				t.Fatalf("the second loop gets %s", text(b))
			}
		}
		if !okA || text(a) != s {
			t.Fatalf("the first loop gets %s", text(a))
		}
	}
	if _, ok := nextA(); ok {
		t.Error("a node behind the last one")
	}
}

// A loop may change the nodes that it is given, and the tree may be changed before and during a loop.
func TestMemoryOfSteps(t *testing.T) {
	for _, x := range rightTrees() {
		want := texts(stepsOf(x))
		a := spacious(x)
		steps := tree.Steps(a)
		var got []string
		for node := range steps {
			got = append(got, text(node))
			spoil(&node)
		}
		if !slices.Equal(got, want) || text(a) != text(x) {
			t.Fatalf("nodes of %s share memory", short(x))
		}
		checkUnused(t, a)
		nodes := some(steps, -1)
		for i := range nodes {
			if got := text(nodes[i]); got != want[i] {
				t.Fatalf("the nodes of %s share memory: %s is %s", short(x), want[i], got)
			}
			spoil(&nodes[i])
		}
		got = nil
		for node := range steps {
			got = append(got, text(node))
			if len(got) == 1 {
				spoil(&a)
			}
		}
		if !slices.Equal(got, want) {
			t.Fatalf("the steps of %s change with the tree", short(x))
		}
		checkNodes(t, x, some(steps, -1), want)
	}
}

// namesOf lists the names of a right tree by the definition.
func namesOf(t api.Tree) []string {
	var l []string
	for _, node := range stepsOf(t) {
		if node.Kind == nameKind && !slices.Contains(l, node.Name) {
			l = append(l, node.Name)
		}
	}
	return l
}

func TestNames(t *testing.T) {
	a, b, c := name("a"), name("b"), name("c")
	for _, x := range []struct {
		t    api.Tree
		want []string
	}{
		{a, []string{"a"}},
		{literal(1, 2), nil},
		{literal(), nil},
		{monad(reverse, -1, literal(1)), nil},
		{join(literal(1), literal(2)), nil},
		{join(a, b), []string{"b", "a"}},
		{join(b, a), []string{"a", "b"}},
		{join(a, a), []string{"a"}},
		{join(join(a, b), c), []string{"c", "b", "a"}},
		{join(a, join(b, c)), []string{"c", "b", "a"}},
		{join(join(a, b), join(b, a)), []string{"a", "b"}},
		{join(join(a, b), join(a, b)), []string{"b", "a"}},
		{join(join(c, a), join(b, a)), []string{"a", "b", "c"}},
		{dyad(take, -1, a, monad(ravel, -1, b)), []string{"b", "a"}},
		{dyad(take, -1, a, dyad(drop, -1, a, b)), []string{"b", "a"}},
		{dyad(reshape, -1, literal(2), dyad(drop, -1, a, literal(5))), []string{"a"}},
		{example(), []string{"b", "c", "a"}},
		{join(name("x"), name("X")), []string{"X", "x"}},
		{join(name("x1"), join(name("x"), name("x_"))), []string{"x_", "x", "x1"}},
	} {
		if l := tree.Names(x.t); !slices.Equal(l, x.want) {
			t.Errorf("Names(%s) = %q; want %q", text(x.t), l, x.want)
		}
	}
	for _, x := range rightTrees() {
		if l := tree.Names(x); !slices.Equal(l, namesOf(x)) {
			t.Errorf("Names(%s) = %q; want %q", short(x), l, namesOf(x))
		}
	}
}

func TestMemoryOfNames(t *testing.T) {
	x := example()
	l := tree.Names(x)
	for i := range l[:cap(l)] {
		l[:cap(l)][i] = "spoilt"
	}
	if !slices.Equal(tree.Names(x), []string{"b", "c", "a"}) || text(x) != text(example()) {
		t.Error("the names share memory")
	}
}

// No function changes its arguments, or the unused capacity in them.
func TestArgumentsStay(t *testing.T) {
	for _, x := range allTrees() {
		a, b, want := spacious(x), spacious(x), text(x)
		tree.Right(a)
		tree.Same(a, b)
		tree.Size(a)
		tree.Depth(a)
		tree.Names(a)
		for range tree.Steps(a) {
		}
		if text(a) != want || text(b) != want {
			t.Fatalf("%s was changed", short(x))
		}
		checkUnused(t, a)
		checkUnused(t, b)
	}
}

// openTrees are deeper than 1000, have more than 2^20 nodes, or hold themselves.
func openTrees() []api.Tree {
	x := name("x")
	l := chains(1001, x)
	l = append(l, chains(1<<16, x)[3], chains(1<<18, x)[0])
	doubled := x
	for range 99 {
		doubled = join(doubled, doubled)
	}
	l = append(l, doubled, api.Tree{Kids: make([]api.Tree, 1<<20)})
	for _, n := range []int{1, 2, 1000} {
		kids := make([]api.Tree, n)
		for i := range kids {
			kids[i] = api.Tree{Kind: dyadKind, Fn: ravel, Axis: -1, Kids: kids}
		}
		l = append(l, kids[0])
	}
	kids := []api.Tree{x, x}
	kids[0] = join(name("y"), monad(ravel, -1, api.Tree{Kind: dyadKind, Fn: ravel, Axis: -1, Kids: kids}))
	return append(l, kids[0])
}

// The chapter leaves open what the functions return here.
func TestOpenArguments(t *testing.T) {
	for _, x := range openTrees() {
		tree.Right(x)
		tree.Size(x)
		tree.Depth(x)
		tree.Copy(x)
		tree.Names(x)
		tree.Same(x, x)
		tree.Same(x, example())
		tree.Same(example(), x)
		some(tree.Steps(x), 2)
		for range tree.Steps(x) {
		}
	}
	for _, x := range oddTrees() {
		tree.Names(x)
		for range tree.Steps(x) {
		}
	}
}
