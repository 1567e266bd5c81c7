package tree_test

import (
	"bytes"
	"crypto/sha256"
	"encoding/binary"
	"encoding/hex"
	"math"
	"math/rand"
	"slices"
	"testing"

	"sponsion/api"
	"sponsion/domain"
	"sponsion/tree"
)

const top = 1<<64 - 1

// wantNode: a Node, by another SHA-256.
func wantNode(l, r api.Hash) api.Hash {
	text := []byte{1}
	for _, h := range []api.Hash{l, r} {
		text = append(append(text, 0, 0, 0, 32), h[:]...)
	}
	return sha256.Sum256(text)
}

// wantEmpty: Empty of each level, by another SHA-256.
var wantEmpty = func() [33]api.Hash {
	var all [33]api.Hash
	all[0] = sha256.Sum256([]byte{2})
	for level := range 32 {
		all[level+1] = wantNode(all[level], all[level])
	}
	return all
}()

// wantTree: each level's nodes up to the depth, from the chapter's words: of level 0 the leaves, above them pair by pair;
// what is behind a level's list is Empty.
func wantTree(depth int, leaves []api.Hash) [][]api.Hash {
	levels := [][]api.Hash{leaves}
	for level := range depth {
		below := slices.Clone(levels[level])
		if len(below)%2 == 1 {
			below = append(below, wantEmpty[level])
		}
		var nodes []api.Hash
		for i := 0; i < len(below); i += 2 {
			nodes = append(nodes, wantNode(below[i], below[i+1]))
		}
		levels = append(levels, nodes)
	}
	return levels
}

// at: a node of such levels.
func at(levels [][]api.Hash, level int, i uint64) api.Hash {
	if i < uint64(len(levels[level])) {
		return levels[level][i]
	}
	return wantEmpty[level]
}

// leaf: sums without a pattern, each of its own.
func leaf(i int) api.Hash {
	return sha256.Sum256(binary.BigEndian.AppendUint64([]byte("leaf"), uint64(i)))
}

// some: n leaves, from a number on.
func some(from, n int) []api.Hash {
	leaves := make([]api.Hash, n)
	for i := range leaves {
		leaves[i] = leaf(from + i)
	}
	return leaves
}

// add: leaves, one by one, each at the place that is next.
func add(t *testing.T, x *tree.Tree, leaves ...api.Hash) {
	t.Helper()
	for _, h := range leaves {
		want := x.Len()
		if place, e := x.Append(h); e != api.OK || place != want || x.Len() != want+1 {
			t.Fatalf("Append: place %d, error %d, %d leaves; want place %d", place, e, x.Len(), want)
		}
	}
}

// made: a tree with these leaves.
func made(t *testing.T, depth int, leaves ...api.Hash) *tree.Tree {
	t.Helper()
	x := tree.New(depth)
	if x == nil {
		t.Fatalf("no tree of depth %d", depth)
	}
	add(t, x, leaves...)
	return x
}

// edges: places about a number's ends that may tell something at a level of so many.
func edges(count uint64) []uint64 {
	return []uint64{0, 1, 2, count / 2, count - 2, count - 1, count, count + 1, 2 * count, 1 << 31, 1<<32 - 1, 1 << 32, 1 << 63, top - 1, top}
}

// holdNode: one node of a tree cut to n leaves.
func holdNode(t *testing.T, x *tree.Tree, n uint64, level int, i uint64, levels [][]api.Hash) {
	t.Helper()
	want, there := api.Hash{}, i < 1<<(x.Depth()-level)
	if there {
		want = at(levels, level, i)
	}
	if got, ok := x.Node(n, level, i); ok != there || got != want {
		t.Fatalf("depth %d of %d leaves: Node(%d, %d, %d): %x, %t; want %x, %t", x.Depth(), x.Len(), n, level, i, got, ok, want, there)
	}
}

// hold: all that a tree answers, against the leaves that it should have.
func hold(t *testing.T, x *tree.Tree, depth int, leaves []api.Hash) {
	t.Helper()
	if x.Depth() != depth || x.Len() != uint64(len(leaves)) {
		t.Fatalf("depth %d, %d leaves; want %d, %d", x.Depth(), x.Len(), depth, len(leaves))
	}
	for i, want := range leaves {
		if got, ok := x.Leaf(uint64(i)); !ok || got != want {
			t.Fatalf("Leaf(%d): %x, %t; want %x", i, got, ok, want)
		}
	}
	count := uint64(len(leaves))
	for _, i := range []uint64{count, count + 1, 1 << 32, 1<<32 + 1, 1 << 63, top} {
		if got, ok := x.Leaf(i); ok || got != (api.Hash{}) {
			t.Fatalf("Leaf(%d) of %d: %x, %t", i, count, got, ok)
		}
	}
	levels := wantTree(depth, leaves)
	if got := x.Root(); got != at(levels, depth, 0) {
		t.Fatalf("depth %d of %d leaves: Root: %x; want %x", depth, count, got, at(levels, depth, 0))
	}
	for level := range depth + 1 {
		for i := range uint64(len(levels[level])) {
			holdNode(t, x, count, level, i, levels)
		}
		for _, i := range append(edges(uint64(len(levels[level]))), edges(1<<(depth-level))...) {
			holdNode(t, x, count, level, i, levels)
		}
	}
}

// P10.1: each depth that may be.
func TestNew(t *testing.T) {
	for depth := range api.Depth + 1 {
		x := tree.New(depth)
		if x == nil {
			t.Fatalf("no tree of depth %d", depth)
		}
		hold(t, x, depth, nil)
		if x.Root() != domain.Empty(depth) {
			t.Errorf("depth %d without leaves: %x", depth, x.Root())
		}
	}
}

// P10.1: depths that may not be.
func TestNewBeyond(t *testing.T) {
	for _, depth := range []int{-1, -2, -32, -64, math.MinInt32, math.MinInt, 33, 34, 63, 64, 65, 256, 1 << 32, 1<<32 + 1, math.MaxInt32, math.MaxInt} {
		if tree.New(depth) != nil {
			t.Errorf("a tree of depth %d", depth)
		}
	}
}

// P10.1, P10.2: the chapter's example, and what follows from it.
func TestExample(t *testing.T) {
	a, b := leaf(1), leaf(2)
	x := made(t, 1, a)
	if x.Root() != domain.Node(a, domain.Empty(0)) {
		t.Errorf("one leaf: %x", x.Root())
	}
	add(t, x, b)
	if x.Root() != domain.Node(a, b) {
		t.Errorf("two leaves: %x", x.Root())
	}
	if x := made(t, 0, a); x.Root() != a {
		t.Errorf("of depth 0 the root isn't the leaf: %x", x.Root())
	}
}

// P10.2: sums written out, so that they never change.
func TestKnownRoots(t *testing.T) {
	for _, c := range []struct {
		depth, leaves int
		want          string
	}{
		{0, 0, "dbc1b4c900ffe48d575b5da5c638040125f65db0fe3e24494b76ea986457d986"},
		{32, 0, "e004df219cdc0c0da733f3ff312c6c61bf523f62305c2da718400ff570516296"},
		{3, 5, "3a7d8dc0ea96faada8b6c470cf97e1a8656ff88823edea186ec2d648c7dd931e"},
		{32, 5, "30d900b0c988ad834c55781bdc50731ee5a64c403cb4ce1a887ede5c83f67de0"},
	} {
		x := tree.New(c.depth)
		for i := range c.leaves {
			add(t, x, domain.Leaf([]byte{byte(i)}))
		}
		root := x.Root()
		if got := hex.EncodeToString(root[:]); got != c.want {
			t.Errorf("depth %d, %d leaves: %s; want %s", c.depth, c.leaves, got, c.want)
		}
	}
}

// P10.1: up to as many leaves as may be, and not one more.
func TestFull(t *testing.T) {
	for depth := range 8 {
		x := tree.New(depth)
		leaves := some(depth*1000, 1<<depth)
		for i, h := range leaves {
			add(t, x, h)
			if depth < 6 {
				hold(t, x, depth, leaves[:i+1])
			}
		}
		for range 3 {
			if place, e := x.Append(leaf(-1)); e != api.ErrFull || place != 0 {
				t.Fatalf("depth %d: one more: %d, %d", depth, place, e)
			}
			hold(t, x, depth, leaves)
		}
		// Where one is cut there is room for one again.
		if !x.Cut(uint64(len(leaves) - 1)) {
			t.Fatal("Cut")
		}
		add(t, x, leaf(-2))
		hold(t, x, depth, append(slices.Clone(leaves[:len(leaves)-1]), leaf(-2)))
		if _, e := x.Append(leaf(-1)); e != api.ErrFull {
			t.Fatalf("depth %d: one more behind a cut: %d", depth, e)
		}
	}
}

// P10.2: each node of each tree of at most some depth, cut to each number of leaves; the tree itself stays.
func TestNodeOfEachCut(t *testing.T) {
	for depth := range 6 {
		leaves := some(7, 1<<depth)
		for count := range len(leaves) + 1 {
			x := made(t, depth, leaves[:count]...)
			for n := range count + 1 {
				levels := wantTree(depth, leaves[:n])
				for level := range depth + 1 {
					for i := range uint64(1)<<(depth-level) + 2 {
						holdNode(t, x, uint64(n), level, i, levels)
					}
				}
			}
			hold(t, x, depth, leaves[:count])
		}
	}
}

// P10.2: each node is the Node of the two below, whatever the cut; its last level is the root.
func TestNodeOfTwoBelow(t *testing.T) {
	const depth, count = 5, 27
	x := made(t, depth, some(0, count)...)
	for n := range uint64(count + 1) {
		for level := 1; level <= depth; level++ {
			for i := range uint64(1) << (depth - level) {
				l, lok := x.Node(n, level-1, 2*i)
				r, rok := x.Node(n, level-1, 2*i+1)
				if h, ok := x.Node(n, level, i); !ok || !lok || !rok || h != domain.Node(l, r) {
					t.Fatalf("Node(%d, %d, %d)", n, level, i)
				}
			}
		}
		cut := x.Copy()
		cut.Cut(n)
		if h, ok := x.Node(n, depth, 0); !ok || h != cut.Root() {
			t.Fatalf("the root of it, cut to %d", n)
		}
	}
}

// P10.2, R3: leaves, levels and places that aren't there.
func TestNodeBeyond(t *testing.T) {
	for _, depth := range []int{0, 1, 3, 31, 32} {
		x := made(t, depth, leaf(0))
		for _, n := range []uint64{2, 3, 1 << 31, 1 << 32, 1<<32 + 1, 1 << 63, top} {
			if h, ok := x.Node(n, 0, 0); ok || h != (api.Hash{}) {
				t.Errorf("depth %d: more leaves than there are, %d", depth, n)
			}
		}
		for _, level := range []int{-1, -2, -32, -64, math.MinInt, math.MinInt32, depth + 1, depth + 2, 33, 64, 65, 1 << 32, math.MaxInt32, math.MaxInt} {
			for _, n := range []uint64{0, 1} {
				if h, ok := x.Node(n, level, 0); ok || h != (api.Hash{}) {
					t.Errorf("depth %d: level %d", depth, level)
				}
			}
		}
		for level := range depth + 1 {
			room := uint64(1) << (depth - level)
			for _, i := range []uint64{room, room + 1, 2 * room, 1 << 32, 1<<32 + 1, 1 << 63, 1<<63 + 1, top - 1, top} {
				if h, ok := x.Node(1, level, i); ok || h != (api.Hash{}) {
					t.Errorf("depth %d: level %d, place %d", depth, level, i)
				}
			}
			if h, ok := x.Node(1, level, room-1); !ok || h == (api.Hash{}) {
				t.Errorf("depth %d: level %d, the last place isn't there", depth, level)
			}
		}
		hold(t, x, depth, some(0, 1))
	}
}

// P10.2: some leaves in trees of each depth.
func TestEachDepth(t *testing.T) {
	for depth := range api.Depth + 1 {
		for _, n := range []int{1, 2, 3, 4, 5, 15, 16, 17, 70} {
			if depth < 7 && n > 1<<depth {
				continue
			}
			hold(t, made(t, depth, some(depth, n)...), depth, some(depth, n))
		}
	}
}

// P10.2: a deeper tree has the same nodes below, and Empty beside them.
func TestDeeper(t *testing.T) {
	for depth := range api.Depth {
		leaves := some(3, min(11, 1<<depth))
		x, y := made(t, depth, leaves...), made(t, depth+1, leaves...)
		if y.Root() != domain.Node(x.Root(), domain.Empty(depth)) {
			t.Errorf("depth %d", depth+1)
		}
	}
}

// P10.2: many leaves, at cuts here and there.
func TestManyLeaves(t *testing.T) {
	const count = 4097
	leaves := some(0, count)
	for _, depth := range []int{13, 20, 32} {
		x := made(t, depth, leaves...)
		hold(t, x, depth, leaves)
		for _, n := range []int{0, 1, 2, 1023, 1024, 1025, 2730, 4000, 4095, 4096} {
			levels := wantTree(depth, leaves[:n])
			for level := range depth + 1 {
				edge := uint64(n) >> level
				for _, i := range []uint64{0, edge / 2, edge - 1, edge, edge + 1, edge ^ 1, 4096 >> level, 4097 >> level} {
					holdNode(t, x, uint64(n), level, i, levels)
				}
			}
		}
	}
}

// P10.1: leaves of any bytes, alike ones too.
func TestAnyLeaves(t *testing.T) {
	full := api.Hash(bytes.Repeat([]byte{255}, 32))
	kinds := []api.Hash{{}, full, domain.Empty(0), domain.Empty(1), leaf(1), leaf(1)}
	for _, a := range kinds {
		for _, b := range kinds {
			for _, c := range kinds {
				hold(t, made(t, 2, a, b, c), 2, []api.Hash{a, b, c})
			}
		}
	}
	// A leaf that is Empty(0) is one all the same.
	x := made(t, 2, leaf(1), domain.Empty(0))
	if x.Root() != made(t, 2, leaf(1)).Root() || x.Len() != 2 {
		t.Error("a leaf that is Empty(0)")
	}
}

// P10.2: each leaf and each place tells.
func TestUnlikeRoots(t *testing.T) {
	seen := map[api.Hash]string{}
	tell := func(root api.Hash, what string) {
		if other, ok := seen[root]; ok {
			t.Errorf("%s has the root of %s", what, other)
		}
		seen[root] = what
	}
	leaves := some(0, 8)
	for n := range len(leaves) + 1 {
		tell(made(t, 3, leaves[:n]...).Root(), "the first leaves")
	}
	for i := range leaves {
		for bit := range 256 {
			other := slices.Clone(leaves)
			other[i][bit/8] ^= 1 << (bit % 8)
			tell(made(t, 3, other...).Root(), "a leaf with a bit turned")
		}
		for j := range i {
			other := slices.Clone(leaves)
			other[i], other[j] = other[j], other[i]
			tell(made(t, 3, other...).Root(), "two leaves changed about")
		}
	}
}

// P10.1: cut to each number of leaves, and grown again with others.
func TestCut(t *testing.T) {
	const depth = 4
	leaves := some(0, 1<<depth)
	for count := range len(leaves) + 1 {
		for n := range count + 1 {
			x := made(t, depth, leaves[:count]...)
			if !x.Cut(uint64(n)) {
				t.Fatalf("%d leaves aren't cut to %d", count, n)
			}
			hold(t, x, depth, leaves[:n])
			again := slices.Clone(leaves[:n])
			for len(again) < len(leaves) {
				again = append(again, leaf(100+len(again)))
				add(t, x, again[len(again)-1])
				hold(t, x, depth, again)
			}
		}
	}
}

// P10.1: to more leaves than there are: nothing changes.
func TestCutBeyond(t *testing.T) {
	for _, depth := range []int{0, 1, 3, 32} {
		for _, count := range []int{0, 1, 2, 5} {
			if depth < 3 && count > 1<<depth {
				continue
			}
			x := made(t, depth, some(0, count)...)
			for _, n := range []uint64{1, 2, 1 << depth, 1<<depth + 1, 1 << 31, 1 << 32, 1<<32 + 1, 1 << 62, 1 << 63, top} {
				if n > uint64(count) && x.Cut(n) {
					t.Errorf("%d leaves are cut to %d", count, n)
				}
			}
			hold(t, x, depth, some(0, count))
			// What was cut doesn't come back, either.
			if x.Cut(0); count > 0 && x.Cut(uint64(count)) {
				t.Errorf("%d leaves are there again", count)
			}
			hold(t, x, depth, nil)
		}
	}
}

// P10.1: a copy and what it is of are apart, whichever changes first.
func TestCopy(t *testing.T) {
	const depth = 5
	for count := range 33 {
		leaves := some(0, count)
		for n := range count + 1 {
			for _, swap := range []bool{false, true} {
				x := made(t, depth, leaves...)
				y := x.Copy()
				hold(t, y, depth, leaves)
				if swap {
					x, y = y, x
				}
				// Both grow into their spare room, if they share any.
				mine, yours := slices.Clone(leaves), slices.Clone(leaves)
				if count < 32 {
					mine, yours = append(mine, leaf(500)), append(yours, leaf(600))
					add(t, x, leaf(500))
					add(t, y, leaf(600))
				}
				hold(t, x, depth, mine)
				hold(t, y, depth, yours)
				x.Cut(uint64(n))
				hold(t, y, depth, yours)
				more := some(700, 32-n)
				add(t, x, more...)
				hold(t, x, depth, append(slices.Clone(leaves[:n]), more...))
				hold(t, y, depth, yours)
			}
		}
	}
}

// P10.1: copies of each depth, of trees without leaves, and of copies.
func TestCopyOfCopy(t *testing.T) {
	for depth := range api.Depth + 1 {
		x := tree.New(depth)
		y := x.Copy()
		if y == nil || y == x {
			t.Fatalf("depth %d: no copy", depth)
		}
		z := y.Copy()
		add(t, y, leaf(1))
		hold(t, x, depth, nil)
		hold(t, z, depth, nil)
		hold(t, y.Copy(), depth, some(1, 1))
		if _, e := y.Copy().Append(leaf(2)); (e == api.OK) != (depth > 0) {
			t.Errorf("depth %d: a copy takes a second leaf: %d", depth, e)
		}
	}
}

// P10.2: a tree that isn't there.
func TestNil(t *testing.T) {
	var x *tree.Tree
	if x.Depth() != 0 || x.Len() != 0 || x.Root() != (api.Hash{}) || x.Copy() != nil {
		t.Error("Depth, Len, Root, Copy")
	}
	if place, e := x.Append(leaf(1)); place != 0 || e != api.ErrArg {
		t.Errorf("Append: %d, %d", place, e)
	}
	for _, i := range []uint64{0, 1, top} {
		if h, ok := x.Leaf(i); ok || h != (api.Hash{}) {
			t.Errorf("Leaf(%d)", i)
		}
		if x.Cut(i) {
			t.Errorf("Cut(%d)", i)
		}
		for _, level := range []int{math.MinInt, -1, 0, 1, 32, math.MaxInt} {
			for _, n := range []uint64{0, 1, top} {
				if h, ok := x.Node(n, level, i); ok || h != (api.Hash{}) {
					t.Errorf("Node(%d, %d, %d)", n, level, i)
				}
			}
		}
	}
}

// P10.3: whatever was appended, refused, cut and asked ahead.
func TestWhateverWasAhead(t *testing.T) {
	source := rand.New(rand.NewSource(10))
	for _, depth := range []int{0, 1, 2, 3, 4, 5, 32} {
		for range 60 {
			x := tree.New(depth)
			var leaves []api.Hash
			for range 1 + source.Intn(80) {
				h := leaf(source.Intn(50))
				switch source.Intn(8) {
				case 0:
					n := source.Intn(len(leaves) + 1)
					if !x.Cut(uint64(n)) {
						t.Fatal("Cut")
					}
					leaves = leaves[:n:n]
				case 1:
					if x.Cut(uint64(len(leaves) + 1 + source.Intn(3))) {
						t.Fatal("cut to more")
					}
				case 2:
					x.Copy().Cut(0)
					x.Node(uint64(source.Intn(len(leaves)+2)), source.Intn(depth+2), uint64(source.Intn(40)))
				default:
					if _, e := x.Append(h); e == api.OK {
						leaves = append(leaves, h)
					} else if depth == 32 || len(leaves) != 1<<depth || e != api.ErrFull {
						t.Fatalf("depth %d of %d leaves: Append: %d", depth, len(leaves), e)
					}
				}
			}
			hold(t, x, depth, leaves)
			if x.Root() != made(t, depth, leaves...).Root() {
				t.Fatalf("depth %d of %d leaves: another root than one that was made at once", depth, len(leaves))
			}
		}
	}
}

// R4, R5: an answer stays as it is, whatever comes behind it, and the same question has the same answer.
func TestAnswersStay(t *testing.T) {
	x := made(t, 3, some(0, 5)...)
	root := x.Root()
	first, _ := x.Leaf(0)
	node, _ := x.Node(5, 1, 0)
	was := [3]api.Hash{root, first, node}
	first[0], node[0] = first[0]+1, node[0]+1
	hold(t, x, 3, some(0, 5))
	x.Cut(0)
	add(t, x, some(9, 8)...)
	if root != was[0] {
		t.Error("a root is changed")
	}
	x.Cut(0)
	add(t, x, some(0, 5)...)
	again, _ := x.Node(5, 1, 0)
	head, _ := x.Leaf(0)
	if [3]api.Hash{x.Root(), head, again} != was {
		t.Error("the same leaves have other answers")
	}
}
