package proof_test

import (
	"bytes"
	"crypto/sha256"
	"encoding/binary"
	"encoding/hex"
	"math"
	"math/rand"
	"testing"

	"sponsion/api"
	"sponsion/domain"
	"sponsion/proof"
	"sponsion/tree"
)

const top = 1<<64 - 1

// A proof is 32 sums, whatever it is called.
var _ *[32]api.Hash = (*proof.Proof)(nil)

// wantNode: a Node, by another SHA-256.
func wantNode(l, r api.Hash) api.Hash {
	text := []byte{1}
	for _, h := range []api.Hash{l, r} {
		text = append(append(text, 0, 0, 0, 32), h[:]...)
	}
	return sha256.Sum256(text)
}

// wantEmpty: Empty of each level, by another SHA-256.
var wantEmpty = func() [33]api.Hash {
	var all [33]api.Hash
	all[0] = sha256.Sum256([]byte{2})
	for level := range 32 {
		all[level+1] = wantNode(all[level], all[level])
	}
	return all
}()

// wantAt: a node of a tree with these leaves, from chapter 10's words.
func wantAt(leaves []api.Hash, level int, i uint64) api.Hash {
	// Where no leaf is in reach it is Empty; gone down to the leaves, 2^32 of them would take too long.
	if i >= uint64(len(leaves)) || i<<level >= uint64(len(leaves)) {
		return wantEmpty[level]
	}
	if level == 0 {
		return leaves[i]
	}
	return wantNode(wantAt(leaves, level-1, 2*i), wantAt(leaves, level-1, 2*i+1))
}

// wantProof: the proof of a place, from the chapter's words.
func wantProof(depth int, leaves []api.Hash, i uint64) proof.Proof {
	var p proof.Proof
	for level := range depth {
		if i%2 == 0 {
			p[level] = wantAt(leaves, level, i+1)
		} else {
			p[level] = wantAt(leaves, level, i-1)
		}
		i /= 2
	}
	return p
}

// wantClimb: the sum at the end, from the chapter's words.
func wantClimb(depth int, i uint64, leaf api.Hash, p proof.Proof) api.Hash {
	for level := range depth {
		if i%2 == 0 {
			leaf = wantNode(leaf, p[level])
		} else {
			leaf = wantNode(p[level], leaf)
		}
		i /= 2
	}
	return leaf
}

// leaf: sums without a pattern, each of its own.
func leaf(i int) api.Hash {
	return sha256.Sum256(binary.BigEndian.AppendUint64([]byte("leaf"), uint64(i)))
}

// some: n leaves, from a number on.
func some(from, n int) []api.Hash {
	leaves := make([]api.Hash, n)
	for i := range leaves {
		leaves[i] = leaf(from + i)
	}
	return leaves
}

// made: a tree with these leaves.
func made(t *testing.T, depth int, leaves ...api.Hash) *tree.Tree {
	t.Helper()
	x := tree.New(depth)
	for _, h := range leaves {
		if _, e := x.Append(h); e != api.OK {
			t.Fatalf("depth %d: Append: %d", depth, e)
		}
	}
	return x
}

// holdMake: the proof of a place in a tree whose first n leaves are these.
func holdMake(t *testing.T, x *tree.Tree, leaves []api.Hash, i uint64) proof.Proof {
	t.Helper()
	n := uint64(len(leaves))
	want := wantProof(x.Depth(), leaves, i)
	p, e := proof.Make(x, n, i)
	if e != api.OK || p != want {
		t.Fatalf("depth %d of %d leaves: Make(%d, %d): error %d, %x; want %x", x.Depth(), x.Len(), n, i, e, p, want)
	}
	return p
}

// failMake: an error, and beside it nothing.
func failMake(t *testing.T, x *tree.Tree, n, i uint64, want api.Errno) {
	t.Helper()
	if p, e := proof.Make(x, n, i); e != want || p != (proof.Proof{}) {
		t.Errorf("Make(%d, %d) of depth %d, %d leaves: error %d, %x; want %d", n, i, x.Depth(), x.Len(), e, p, want)
	}
}

// holdClimb: the sum at the end.
func holdClimb(t *testing.T, depth int, i uint64, h api.Hash, p proof.Proof) api.Hash {
	t.Helper()
	want := wantClimb(depth, i, h, p)
	got, e := proof.Climb(depth, i, h, p)
	if e != api.OK || got != want {
		t.Fatalf("Climb(%d, %d): error %d, %x; want %x", depth, i, e, got, want)
	}
	return got
}

// failClimb: an error, and beside it nothing; Check tells it too, whatever the root and however many leaves.
func failClimb(t *testing.T, depth int, i uint64, p proof.Proof, want api.Errno) {
	t.Helper()
	if h, e := proof.Climb(depth, i, leaf(0), p); e != want || h != (api.Hash{}) {
		t.Errorf("Climb(%d, %d): error %d, %x; want %d", depth, i, e, h, want)
	}
	for _, root := range []api.Hash{{}, leaf(0), leaf(1)} {
		for _, n := range []uint64{0, 1, i, i + 1, top} {
			holdCheck(t, depth, root, n, i, leaf(0), p, want)
		}
	}
}

// holdCheck: what is answered.
func holdCheck(t *testing.T, depth int, root api.Hash, n, i uint64, h api.Hash, p proof.Proof, want api.Errno) {
	t.Helper()
	if e := proof.Check(depth, root, n, i, h, p); e != want {
		t.Errorf("Check(%d, .., %d, %d): %d; want %d", depth, n, i, e, want)
	}
}

// places: some of a tree of a depth, its ends among them.
func places(depth int) []uint64 {
	last := uint64(1)<<depth - 1
	return []uint64{0, last, last / 2, last/2 + last%2, last / 3, last - last/3, 1 & last, 0x9e3779b97f4a7c15 & last}
}

// anyProof: a proof of a depth, of sums without a pattern.
func anyProof(from, depth int) proof.Proof {
	var p proof.Proof
	copy(p[:depth], some(from, depth))
	return p
}

// P11.1: the chapter's example, and a tree whose sums are written out.
func TestExample(t *testing.T) {
	x := made(t, 1, leaf(1), leaf(2))
	if p, e := proof.Make(x, 2, 0); e != api.OK || p != (proof.Proof{leaf(2)}) {
		t.Errorf("of place 0: %d, %x", e, p)
	}
	if p, e := proof.Make(x, 2, 1); e != api.OK || p != (proof.Proof{leaf(1)}) {
		t.Errorf("of place 1: %d, %x", e, p)
	}
	if p, e := proof.Make(x, 1, 0); e != api.OK || p != (proof.Proof{domain.Empty(0)}) {
		t.Errorf("of place 0, cut to one leaf: %d, %x", e, p)
	}
	a, b, c := leaf(1), leaf(2), leaf(3)
	y := made(t, 2, a, b, c)
	if p, e := proof.Make(y, 3, 1); e != api.OK || p != (proof.Proof{a, domain.Node(c, domain.Empty(0))}) {
		t.Errorf("of depth 2: %d, %x", e, p)
	}
	if h, e := proof.Climb(2, 1, b, proof.Proof{a, c}); e != api.OK || h != domain.Node(domain.Node(a, b), c) {
		t.Errorf("Climb: %d, %x", e, h)
	}
}

// P11.1: sums written out, so that they never change.
func TestKnownSums(t *testing.T) {
	for _, c := range []struct {
		depth int
		root  string
	}{
		{3, "3a7d8dc0ea96faada8b6c470cf97e1a8656ff88823edea186ec2d648c7dd931e"},
		{32, "30d900b0c988ad834c55781bdc50731ee5a64c403cb4ce1a887ede5c83f67de0"},
	} {
		var leaves []api.Hash
		for i := range 5 {
			leaves = append(leaves, domain.Leaf([]byte{byte(i)}))
		}
		x := made(t, c.depth, leaves...)
		for i, h := range leaves {
			p, e := proof.Make(x, 5, uint64(i))
			if e != api.OK {
				t.Fatal(e)
			}
			end, _ := proof.Climb(c.depth, uint64(i), h, p)
			if got := hex.EncodeToString(end[:]); got != c.root {
				t.Errorf("depth %d, place %d: %s; want %s", c.depth, i, got, c.root)
			}
		}
	}
}

// P11.1, P11.2: the proof of each place of each tree of at most some depth, cut to each number of leaves, and checked.
func TestEachPlaceOfEachCut(t *testing.T) {
	for depth := range 6 {
		leaves := some(7, 1<<depth)
		for count := range len(leaves) + 1 {
			x := made(t, depth, leaves[:count]...)
			was := x.Root()
			for n := range count + 1 {
				cut := x.Copy()
				cut.Cut(uint64(n))
				root := cut.Root()
				for i := range uint64(n) {
					p := holdMake(t, x, leaves[:n], i)
					if holdClimb(t, depth, i, leaves[i], p) != root {
						t.Fatalf("depth %d, cut to %d: place %d doesn't come to the root", depth, n, i)
					}
					holdCheck(t, depth, root, uint64(n), i, leaves[i], p, api.OK)
					holdMake(t, cut, leaves[:n], i)
				}
				failMake(t, x, uint64(n), uint64(n), api.ErrNone)
			}
			if x.Len() != uint64(count) || x.Root() != was {
				t.Fatalf("depth %d of %d leaves: the tree isn't what it was", depth, count)
			}
		}
	}
}

// P11.1, P11.2: some leaves in trees of each depth.
func TestEachDepth(t *testing.T) {
	for depth := range api.Depth + 1 {
		for _, n := range []int{1, 2, 3, 4, 5, 15, 16, 17, 70} {
			if depth < 7 && n > 1<<depth {
				continue
			}
			leaves := some(depth, n)
			x := made(t, depth, leaves...)
			for i := range uint64(n) {
				p := holdMake(t, x, leaves, i)
				for _, beyond := range p[depth:] {
					if beyond != (api.Hash{}) {
						t.Fatalf("depth %d: a sum beyond it", depth)
					}
				}
				holdCheck(t, depth, x.Root(), uint64(n), i, leaves[i], p, api.OK)
			}
			failMake(t, x, uint64(n), uint64(n), api.ErrNone)
		}
	}
}

// P11.1, P11.2: many leaves, at cuts here and there.
func TestManyLeaves(t *testing.T) {
	const count = 1025
	leaves := some(0, count)
	for _, depth := range []int{11, 20, 32} {
		x := made(t, depth, leaves...)
		for _, n := range []int{1, 2, 511, 512, 513, 1000, 1023, 1024, 1025} {
			cut := x.Copy()
			cut.Cut(uint64(n))
			root := cut.Root()
			for _, i := range []int{0, 1, n / 2, n/2 + 1, n - 2, n - 1, 511, 512} {
				if i < 0 || i >= n {
					continue
				}
				p := holdMake(t, x, leaves[:n], uint64(i))
				holdCheck(t, depth, root, uint64(n), uint64(i), leaves[i], p, api.OK)
			}
		}
	}
}

// P11.1, R2: Make's errors, the first one first.
func TestMakeFails(t *testing.T) {
	for _, i := range []uint64{0, 1, 2, 1 << 32, 1 << 63, top} {
		for _, n := range []uint64{0, 1, 2, 1 << 32, top} {
			failMake(t, nil, n, i, api.ErrArg)
		}
	}
	for _, depth := range []int{0, 1, 2, 3, 31, 32} {
		for count := range min(1<<depth, 5) + 1 {
			x := made(t, depth, some(0, count)...)
			for _, n := range []uint64{uint64(count) + 1, uint64(count) + 2, 1<<depth + 1, 1 << 33, 1<<32 + 1, 1 << 63, top} {
				for _, i := range []uint64{0, 1, n - 1, n, n + 1, uint64(count), 1 << 32, top} {
					failMake(t, x, n, i, api.ErrArg)
				}
			}
			for n := range uint64(count) + 1 {
				for _, i := range []uint64{n, n + 1, uint64(count) + 1, 1 << 32, 1<<32 + n, 1 << 63, top - 1, top} {
					failMake(t, x, n, i, api.ErrNone)
				}
			}
		}
	}
}

// P11.1: climbing at places here and there of each depth, with any sums.
func TestClimb(t *testing.T) {
	for depth := range api.Depth + 1 {
		for _, i := range places(depth) {
			for _, h := range []api.Hash{{}, leaf(5), domain.Empty(0), api.Hash(bytes.Repeat([]byte{255}, 32))} {
				holdClimb(t, depth, i, h, anyProof(int(i%1000), depth))
				// A zero below the depth is a neighbour like any other.
				holdClimb(t, depth, i, h, proof.Proof{})
				for level := range depth {
					p := anyProof(9, depth)
					p[level] = api.Hash{}
					holdClimb(t, depth, i, h, p)
				}
			}
		}
	}
	if h, e := proof.Climb(0, 0, leaf(1), proof.Proof{}); e != api.OK || h != leaf(1) {
		t.Errorf("of depth 0 the end isn't the leaf: %d, %x", e, h)
	}
}

// P11.1: each place of the lower depths.
func TestClimbEachPlace(t *testing.T) {
	for depth := range 7 {
		p := anyProof(40, depth)
		for i := range uint64(1) << depth {
			holdClimb(t, depth, i, leaf(1), p)
		}
		failClimb(t, depth, 1<<depth, p, api.ErrNone)
	}
}

// P11.1, R2: depths that may not be, told ahead of all else.
func TestClimbDepth(t *testing.T) {
	for _, depth := range []int{-1, -2, -31, -32, -33, -64, math.MinInt32, math.MinInt, 33, 34, 63, 64, 65, 256, 1 << 32, 1<<32 + 1, math.MaxInt32, math.MaxInt} {
		for _, i := range []uint64{0, 1, 1 << 32, 1 << 63, top} {
			failClimb(t, depth, i, proof.Proof{}, api.ErrArg)
			failClimb(t, depth, i, anyProof(1, 32), api.ErrArg)
		}
	}
}

// P11.1, R2: places that aren't below 2^depth, told ahead of a proof that is none.
func TestClimbPlace(t *testing.T) {
	for depth := range api.Depth + 1 {
		room := uint64(1) << depth
		for _, i := range []uint64{room, room + 1, 2*room - 1, 2 * room, 1 << 32, 1<<32 + 1, 1 << 33, 1 << 63, top - 1, top} {
			failClimb(t, depth, i, anyProof(2, depth), api.ErrNone)
			failClimb(t, depth, i, anyProof(2, 32), api.ErrNone)
		}
	}
}

// P11.1: a sum at the depth or behind it, each bit of it.
func TestClimbForm(t *testing.T) {
	for depth := range api.Depth {
		for level := depth; level < api.Depth; level++ {
			p := anyProof(3, depth)
			p[level] = leaf(level)
			for _, i := range places(depth) {
				failClimb(t, depth, i, p, api.ErrForm)
			}
		}
	}
	for bit := range 256 {
		for _, level := range []int{3, 4, 31} {
			p := anyProof(3, 3)
			p[level][bit/8] = 1 << (bit % 8)
			failClimb(t, 3, 5, p, api.ErrForm)
		}
	}
	// One depth's proof is none of a lower one, and one of a deeper one where it ends in zeroes.
	p := anyProof(4, 5)
	failClimb(t, 4, 0, p, api.ErrForm)
	holdClimb(t, 5, 0, leaf(0), p)
	holdClimb(t, 6, 0, leaf(0), p)
}

// P11.1: how many leaves are told: the place must be below them; of more than a tree may have nothing is said.
func TestCheckCount(t *testing.T) {
	for depth := range api.Depth + 1 {
		for _, i := range places(depth) {
			p := anyProof(5, depth)
			root := wantClimb(depth, i, leaf(8), p)
			for _, n := range []uint64{i + 1, i + 2, i + 1000, 1 << 32, 1<<32 + 1, 1 << 63, top} {
				holdCheck(t, depth, root, n, i, leaf(8), p, api.OK)
				holdCheck(t, depth, leaf(9), n, i, leaf(8), p, api.ErrProof)
			}
			for _, n := range []uint64{0, i / 2, i} {
				holdCheck(t, depth, root, n, i, leaf(8), p, api.ErrNone)
				// ErrNone stands ahead of ErrProof.
				holdCheck(t, depth, leaf(9), n, i, leaf(8), p, api.ErrNone)
			}
		}
	}
}

// P11.1, R2: a proof that is none, at a place that isn't below n, against another root.
func TestCheckOrder(t *testing.T) {
	p := anyProof(6, 4)
	root := wantClimb(3, 5, leaf(0), anyProof(6, 3))
	holdCheck(t, -1, root, 0, 8, leaf(0), p, api.ErrArg)
	holdCheck(t, 33, root, 0, top, leaf(0), p, api.ErrArg)
	holdCheck(t, 3, root, 9, 8, leaf(0), p, api.ErrNone)
	holdCheck(t, 3, root, 5, 5, leaf(0), p, api.ErrForm)
	holdCheck(t, 3, root, 6, 5, leaf(0), p, api.ErrForm)
	holdCheck(t, 3, leaf(0), 5, 5, leaf(0), anyProof(6, 3), api.ErrNone)
	holdCheck(t, 3, leaf(0), 6, 5, leaf(0), anyProof(6, 3), api.ErrProof)
	holdCheck(t, 3, root, 6, 5, leaf(0), anyProof(6, 3), api.OK)
}

// P11.1: behind the last leaf Empty(0) climbs to the root, and yet stands nowhere.
func TestNoLeafBehindTheLast(t *testing.T) {
	for depth := 1; depth <= api.Depth; depth++ {
		leaves := some(0, min(5, 1<<depth-1))
		x := made(t, depth, leaves...)
		n := uint64(len(leaves))
		p := wantProof(depth, leaves, n)
		if holdClimb(t, depth, n, domain.Empty(0), p) != x.Root() {
			t.Fatalf("depth %d: another end", depth)
		}
		holdCheck(t, depth, x.Root(), n, n, domain.Empty(0), p, api.ErrNone)
		failMake(t, x, n, n, api.ErrNone)
	}
}

// P11.2: each bit of the leaf, of the root and of each neighbour tells, and so does the place.
func TestEachBitTells(t *testing.T) {
	const depth, n = 4, 11
	leaves := some(0, n)
	x := made(t, depth, leaves...)
	root := x.Root()
	for i := range uint64(n) {
		p := holdMake(t, x, leaves, i)
		for bit := range 256 {
			turn := func(h api.Hash) api.Hash {
				h[bit/8] ^= 1 << (bit % 8)
				return h
			}
			holdCheck(t, depth, root, n, i, turn(leaves[i]), p, api.ErrProof)
			holdCheck(t, depth, turn(root), n, i, leaves[i], p, api.ErrProof)
			for level := range depth {
				q := p
				q[level] = turn(q[level])
				holdCheck(t, depth, root, n, i, leaves[i], q, api.ErrProof)
			}
		}
		for j := range uint64(n) {
			if i != j {
				holdCheck(t, depth, root, n, j, leaves[i], p, api.ErrProof)
				holdCheck(t, depth, root, n, i, leaves[j], p, api.ErrProof)
				holdCheck(t, depth, root, n, j, leaves[i], holdMake(t, x, leaves, j), api.ErrProof)
			}
		}
	}
}

// P11.2: at one place no two unlike leaves come to one end, whichever proofs of likely sums they are given.
func TestUnlikeLeaves(t *testing.T) {
	for depth := range 4 {
		kinds := []api.Hash{{}, domain.Empty(0), domain.Empty(1), leaf(1), leaf(2), domain.Node(leaf(1), leaf(2)), domain.Node(leaf(2), leaf(1))}
		for i := range uint64(1) << depth {
			ends := map[api.Hash]api.Hash{}
			for _, h := range kinds {
				eachProof(kinds, depth, func(p proof.Proof) {
					end := holdClimb(t, depth, i, h, p)
					if other, ok := ends[end]; ok && other != h {
						t.Fatalf("depth %d, place %d: %x and %x both come to %x", depth, i, h, other, end)
					}
					ends[end] = h
				})
			}
		}
	}
}

// eachProof: all proofs of a depth that are of these sums.
func eachProof(kinds []api.Hash, depth int, tell func(proof.Proof)) {
	var p proof.Proof
	var fill func(level int)
	fill = func(level int) {
		if level == depth {
			tell(p)
			return
		}
		for _, h := range kinds {
			p[level] = h
			fill(level + 1)
		}
	}
	fill(0)
}

// P11.2: an inner node isn't taken for a leaf, with the neighbours that are left, either.
func TestNodeIsNoLeaf(t *testing.T) {
	leaves := some(0, 8)
	x := made(t, 3, leaves...)
	inner := domain.Node(leaves[0], leaves[1])
	p := holdMake(t, x, leaves, 0)
	holdCheck(t, 3, x.Root(), 8, 0, inner, p, api.ErrProof)
	holdCheck(t, 3, x.Root(), 8, 0, inner, proof.Proof{p[1], p[2]}, api.ErrProof)
	holdCheck(t, 3, x.Root(), 8, 0, x.Root(), proof.Proof{}, api.ErrProof)
}

// P11.2: leaves of any bytes, alike ones too.
func TestAnyLeaves(t *testing.T) {
	kinds := []api.Hash{{}, api.Hash(bytes.Repeat([]byte{255}, 32)), domain.Empty(0), domain.Empty(1), leaf(1), leaf(1)}
	for _, a := range kinds {
		for _, b := range kinds {
			for _, c := range kinds {
				leaves := []api.Hash{a, b, c}
				x := made(t, 2, leaves...)
				for i, h := range leaves {
					p := holdMake(t, x, leaves, uint64(i))
					holdCheck(t, 2, x.Root(), 3, uint64(i), h, p, api.OK)
				}
			}
		}
	}
}

// R3, R4, R5: a proof stays as it is, whatever becomes of the tree, and tells nothing of what the tree had ahead.
func TestProofStays(t *testing.T) {
	source := rand.New(rand.NewSource(11))
	for range 40 {
		depth := 5 + source.Intn(28)
		leaves := some(0, 1+source.Intn(32))
		x := made(t, depth, leaves...)
		i := uint64(source.Intn(len(leaves)))
		p := holdMake(t, x, leaves, i)
		root := x.Root()
		q := p
		q[0][0]++
		holdMake(t, x, leaves, i)
		x.Cut(uint64(source.Intn(len(leaves))))
		for x.Len() < 32 {
			x.Append(leaf(900 + int(x.Len())))
		}
		holdCheck(t, depth, root, uint64(len(leaves)), i, leaves[i], p, api.OK)
		x.Cut(0)
		for _, h := range leaves {
			x.Append(h)
		}
		if again := holdMake(t, x, leaves, i); again != p {
			t.Fatal("the same leaves have another proof")
		}
	}
}
