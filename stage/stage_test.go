package stage_test

import (
	"cmp"
	"maps"
	"math"
	"math/rand"
	"slices"
	"strconv"
	"testing"

	"sponsion/stage"
)

func rising(a, b int) bool { return a < b }

func falling(a, b int) bool { return a > b }

// pair is one key and its value, as All tells them.
type pair[K comparable, V any] struct {
	key   K
	value V
}

// told: all that an iterator tells.
func told[K comparable, V any](seq func(func(K, V) bool)) []pair[K, V] {
	var list []pair[K, V]
	for k, v := range seq {
		list = append(list, pair[K, V]{k, v})
	}
	return list
}

// hold: all that a map answers, against the keys and values that it should have.
func hold[K cmp.Ordered, V comparable](t *testing.T, m *stage.Map[K, V], want map[K]V, order func(a, b K) int, beside ...K) {
	t.Helper()
	keys := slices.SortedFunc(maps.Keys(want), order)
	if m.Len() != len(want) {
		t.Fatalf("Len: %d; want %d", m.Len(), len(want))
	}
	if got := m.Keys(); !slices.Equal(got, keys) {
		t.Fatalf("Keys: %v; want %v", got, keys)
	}
	var pairs []pair[K, V]
	for _, k := range keys {
		pairs = append(pairs, pair[K, V]{k, want[k]})
	}
	if got := told(m.All()); !slices.Equal(got, pairs) {
		t.Fatalf("All: %v; want %v", got, pairs)
	}
	for _, k := range append(keys, beside...) {
		v, ok := want[k]
		if got, there := m.Get(k); got != v || there != ok {
			t.Fatalf("Get(%v): %v, %t; want %v, %t", k, got, there, v, ok)
		}
	}
}

// backwards: the other order.
func backwards(a, b int) int { return cmp.Compare(b, a) }

// P12.1, P12.2: the chapter's example.
func TestExample(t *testing.T) {
	var j stage.Journal
	m := stage.New[int, string](&j, rising)
	m.Set(1, "a")
	if j.Mark() != 1 {
		t.Error(j.Mark())
	}
	m.Set(1, "b")
	if !m.Drop(1) || j.Mark() != 3 {
		t.Error("Drop")
	}
	if !j.Back(1) || j.Mark() != 1 {
		t.Error("Back")
	}
	hold(t, m, map[int]string{1: "a"}, cmp.Compare, 0, 2)
}

// P12.1: a new map has no keys, and is no deed.
func TestNew(t *testing.T) {
	var j stage.Journal
	m := stage.New[int, string](&j, rising)
	n := stage.New[string, [2]int](&j, func(a, b string) bool { return a < b })
	hold(t, m, nil, cmp.Compare, 0, 1, -1, math.MaxInt, math.MinInt)
	hold(t, n, nil, cmp.Compare, "", "a")
	if j.Mark() != 0 || m.Drop(0) || n.Drop("") || j.Mark() != 0 {
		t.Error("a deed, and nothing was done")
	}
}

// P12.1: Get, Set, Drop and Len, at keys and values that are zero, too.
func TestSetAndDrop(t *testing.T) {
	var j stage.Journal
	m := stage.New[int, string](&j, rising)
	for _, k := range []int{0, 7, -1, math.MaxInt, math.MinInt} {
		m.Set(k, "")
	}
	hold(t, m, map[int]string{0: "", 7: "", -1: "", math.MaxInt: "", math.MinInt: ""}, cmp.Compare, 1, 8)
	m.Set(0, "x")
	m.Set(7, "y")
	m.Set(7, "z")
	if j.Mark() != 8 {
		t.Error("each Set is a deed:", j.Mark())
	}
	if !m.Drop(-1) || m.Drop(-1) || m.Drop(1) || j.Mark() != 9 {
		t.Error("a Drop is a deed where there was something alone:", j.Mark())
	}
	hold(t, m, map[int]string{0: "x", 7: "z", math.MaxInt: "", math.MinInt: ""}, cmp.Compare, -1, 1, 8)
	m.Set(-1, "again")
	hold(t, m, map[int]string{0: "x", 7: "z", -1: "again", math.MaxInt: "", math.MinInt: ""}, cmp.Compare, 1, 8)
}

// P12.1: a value that is what was there already is a deed all the same.
func TestSameValueIsADeed(t *testing.T) {
	var j stage.Journal
	m := stage.New[int, int](&j, rising)
	for want := range 5 {
		if j.Mark() != want {
			t.Errorf("Mark: %d; want %d", j.Mark(), want)
		}
		m.Set(3, 3)
	}
	for mark := 4; mark > 0; mark-- {
		if !j.Back(mark) {
			t.Error("Back")
		}
		hold(t, m, map[int]int{3: 3}, cmp.Compare, 0)
	}
	j.Back(0)
	hold(t, m, nil, cmp.Compare, 0, 3)
}

// P12.1: the order is the function's, whatever the keys were set in; of a key and itself it is told nothing.
func TestOrder(t *testing.T) {
	orders := []struct {
		name  string
		ahead func(a, b int) bool
		order func(a, b int) int
	}{
		{"rising", rising, cmp.Compare[int]},
		{"falling", falling, backwards},
		{"rising, a key ahead of itself", func(a, b int) bool { return a <= b }, cmp.Compare[int]},
		{"falling, a key ahead of itself", func(a, b int) bool { return a >= b }, backwards},
	}
	for _, o := range orders {
		for _, count := range []int{0, 1, 2, 3, 12, 13, 50, 700} {
			var j stage.Journal
			m := stage.New[int, int](&j, o.ahead)
			want := map[int]int{}
			for _, k := range rand.New(rand.NewSource(int64(count))).Perm(count) {
				m.Set(k*3, k)
				want[k*3] = k
			}
			hold(t, m, want, o.order, -1, 1, 3*count)
			for k := 0; k < 3*count; k += 6 {
				m.Drop(k)
				delete(want, k)
			}
			hold(t, m, want, o.order, 0, 6)
		}
	}
}

// place is a key of some parts.
type place struct {
	x uint8
	y [2]uint64
	s string
}

// P12.1: keys and values of any kind.
func TestAnyKinds(t *testing.T) {
	var j stage.Journal
	m := stage.New[place, []byte](&j, func(a, b place) bool {
		return cmp.Or(cmp.Compare(a.x, b.x), slices.Compare(a.y[:], b.y[:]), cmp.Compare(a.s, b.s)) < 0
	})
	keys := []place{{}, {0, [2]uint64{}, "a"}, {0, [2]uint64{0, 1}, ""}, {0, [2]uint64{1, 0}, ""}, {1, [2]uint64{}, ""}, {255, [2]uint64{9, 9}, "z"}}
	for i := range keys {
		m.Set(keys[len(keys)-1-i], []byte{byte(i)})
	}
	if !slices.Equal(m.Keys(), keys) {
		t.Error(m.Keys())
	}
	if v, ok := m.Get(place{1, [2]uint64{}, ""}); !ok || len(v) != 1 || v[0] != 1 {
		t.Error(v, ok)
	}
	if v, ok := m.Get(place{2, [2]uint64{}, ""}); ok || v != nil {
		t.Error(v, ok)
	}
	none := stage.New[struct{}, error](&j, func(a, b struct{}) bool { return false })
	none.Set(struct{}{}, nil)
	if v, ok := none.Get(struct{}{}); !ok || v != nil || none.Len() != 1 {
		t.Error("a key that is one of its kind alone")
	}
	signs := stage.New[bool, func() int](&j, func(a, b bool) bool { return a && !b })
	signs.Set(false, func() int { return 1 })
	signs.Set(true, nil)
	if f, ok := signs.Get(false); !ok || f() != 1 || !slices.Equal(signs.Keys(), []bool{true, false}) {
		t.Error("values that are functions")
	}
}

// P12.2: a value is kept as it is handed in, and is so again once it is taken back.
func TestValueAsHandedIn(t *testing.T) {
	var j stage.Journal
	m := stage.New[int, []int](&j, rising)
	first := make([]int, 2, 9)
	m.Set(1, first)
	m.Set(1, []int{5})
	m.Drop(1)
	j.Back(1)
	got, _ := m.Get(1)
	first[1] = 7
	if len(got) != 2 || cap(got) != 9 || &got[0] != &first[0] || got[1] != 7 {
		t.Error(got)
	}
	n := stage.New[int, *int](&j, rising)
	n.Set(1, &first[0])
	if p, _ := n.Get(1); p != &first[0] {
		t.Error("another pointer")
	}
}

// P12.2: back to each mark, and to those that there aren't.
func TestBackToEachMark(t *testing.T) {
	const deeds = 40
	// do: so many deeds on a map, none of which hangs on chance.
	do := func(n int) (*stage.Journal, *stage.Map[int, int], map[int]int) {
		j := new(stage.Journal)
		m, want := stage.New[int, int](j, falling), map[int]int{}
		for i := 0; j.Mark() < n; i++ {
			k := i * i % 11
			if i%3 == 2 {
				m.Drop(k)
				delete(want, k)
			} else {
				m.Set(k, i)
				want[k] = i
			}
		}
		return j, m, want
	}
	for mark := range deeds + 1 {
		j, m, want := do(deeds)
		for _, beyond := range []int{-1, -deeds, math.MinInt, deeds + 1, 2 * deeds, math.MaxInt} {
			if j.Back(beyond) || j.Mark() != deeds {
				t.Fatalf("back to %d", beyond)
			}
		}
		hold(t, m, want, backwards, 11)
		if !j.Back(deeds) || j.Mark() != deeds {
			t.Fatal("back to Mark")
		}
		hold(t, m, want, backwards, 11)
		_, _, want = do(mark)
		if !j.Back(mark) || j.Mark() != mark {
			t.Fatalf("back to %d", mark)
		}
		hold(t, m, want, backwards, 0, 1, 2, 3, 4, 5, 6, 7, 8, 9, 10)
		if j.Back(mark + 1) {
			t.Fatal("what was taken back can be taken back again")
		}
	}
}

// P12.2: what is kept stays, and is no deed any more.
func TestKeep(t *testing.T) {
	var j stage.Journal
	j.Keep()
	if j.Mark() != 0 || !j.Back(0) || j.Back(1) || j.Back(-1) {
		t.Error("a journal without deeds")
	}
	m := stage.New[int, int](&j, rising)
	m.Set(1, 10)
	m.Set(2, 20)
	m.Set(2, 21)
	m.Drop(1)
	j.Keep()
	kept := map[int]int{2: 21}
	if j.Mark() != 0 || j.Back(1) || j.Back(4) || !j.Back(0) {
		t.Error("deeds that were kept")
	}
	hold(t, m, kept, cmp.Compare, 1)
	m.Drop(2)
	m.Set(1, 11)
	if j.Mark() != 2 || !j.Back(0) {
		t.Error(j.Mark())
	}
	hold(t, m, kept, cmp.Compare, 1)
	m.Set(3, 30)
	j.Keep()
	j.Keep()
	hold(t, m, map[int]int{2: 21, 3: 30}, cmp.Compare, 1)
}

// P12.2: all maps of a journal go back together, those of another one stay.
func TestJournalsApart(t *testing.T) {
	var j, other stage.Journal
	m := stage.New[int, int](&j, rising)
	n := stage.New[int, int](&j, falling)
	apart := stage.New[int, int](&other, rising)
	for i := range 6 {
		m.Set(i, i)
		n.Set(i/2, i)
		apart.Set(i, -i)
	}
	if j.Mark() != 12 || other.Mark() != 6 {
		t.Error(j.Mark(), other.Mark())
	}
	j.Back(7)
	hold(t, m, map[int]int{0: 0, 1: 1, 2: 2, 3: 3}, cmp.Compare, 4, 5)
	hold(t, n, map[int]int{0: 1, 1: 2}, backwards, 2)
	hold(t, apart, map[int]int{0: 0, 1: -1, 2: -2, 3: -3, 4: -4, 5: -5}, cmp.Compare)
	j.Keep()
	other.Back(1)
	hold(t, m, map[int]int{0: 0, 1: 1, 2: 2, 3: 3}, cmp.Compare, 4, 5)
	hold(t, apart, map[int]int{0: 0}, cmp.Compare, 1, 5)
	if j.Mark() != 0 || other.Mark() != 1 {
		t.Error(j.Mark(), other.Mark())
	}
}

// P12.1: All tells what there was when it was called, each time it is gone through.
func TestAllAsItWas(t *testing.T) {
	var j stage.Journal
	m := stage.New[int, string](&j, falling)
	empty := m.All()
	for k := range 5 {
		m.Set(k, strconv.Itoa(k))
	}
	j.Keep()
	all := m.All()
	want := []pair[int, string]{{4, "4"}, {3, "3"}, {2, "2"}, {1, "1"}, {0, "0"}}
	m.Drop(4)
	m.Set(3, "other")
	m.Set(9, "more")
	for range 2 {
		if got := told(all); !slices.Equal(got, want) {
			t.Error(got)
		}
	}
	j.Back(0)
	m.Drop(0)
	if got := told(all); !slices.Equal(got, want) {
		t.Error(got)
	}
	for range empty {
		t.Error("there was nothing")
	}
}

// P12.1: to stop early is allowed, at each place, and one can go through it again.
func TestAllStopped(t *testing.T) {
	var j stage.Journal
	m := stage.New[int, int](&j, rising)
	for k := range 6 {
		m.Set(k, k*k)
	}
	all := m.All()
	for stop := range 8 {
		var seen []int
		for k, v := range all {
			if v != k*k {
				t.Error(k, v)
			}
			if k == stop {
				break
			}
			seen = append(seen, k)
		}
		if want := []int{0, 1, 2, 3, 4, 5}[:min(stop, 6)]; !slices.Equal(seen, want) {
			t.Errorf("stopped at %d: %v", stop, seen)
		}
	}
}

// P12.1: what is done to the map while one goes through it changes nothing of what is told.
func TestChangedWhileGoneThrough(t *testing.T) {
	var j stage.Journal
	m := stage.New[int, int](&j, rising)
	for k := range 5 {
		m.Set(k, k)
	}
	var seen []int
	for k, v := range m.All() {
		seen = append(seen, k, v)
		m.Set(k+100, k)
		m.Set(4-k, -1)
		m.Drop(k + 1)
		if k == 3 {
			j.Back(0)
		}
	}
	if !slices.Equal(seen, []int{0, 0, 1, 1, 2, 2, 3, 3, 4, 4}) {
		t.Error(seen)
	}
	hold(t, m, map[int]int{0: -1, 104: 4}, cmp.Compare, 1, 2, 3, 4, 5)
}

// R4: the keys that are told are new memory.
func TestKeysAreNew(t *testing.T) {
	var j stage.Journal
	m := stage.New[int, int](&j, rising)
	for k := range 5 {
		m.Set(k, k)
	}
	keys, again := m.Keys(), m.Keys()
	for i := range keys {
		keys[i] = 77
	}
	_ = append(keys, 78, 79)
	if !slices.Equal(again, []int{0, 1, 2, 3, 4}) {
		t.Error(again)
	}
	hold(t, m, map[int]int{0: 0, 1: 1, 2: 2, 3: 3, 4: 4}, cmp.Compare, 77)
}

// P12.3: of two alike keys that can be told apart, too, the one that was there is there again.
func TestAlikeKeys(t *testing.T) {
	zero, minus := 0.0, math.Copysign(0, -1)
	for _, undo := range []func(m *stage.Map[float64, int]){
		func(m *stage.Map[float64, int]) { m.Set(minus, 2) },
		func(m *stage.Map[float64, int]) { m.Drop(minus) },
		func(m *stage.Map[float64, int]) { m.Drop(minus); m.Set(minus, 3) },
		func(m *stage.Map[float64, int]) { m.Set(minus, 2); m.Drop(zero); m.Set(minus, 3); m.Set(zero, 4) },
	} {
		var j stage.Journal
		m := stage.New[float64, int](&j, func(a, b float64) bool { return a < b })
		m.Set(zero, 1)
		m.Set(1, 5)
		undo(m)
		j.Back(2)
		if keys := m.Keys(); len(keys) != 2 || math.Signbit(keys[0]) {
			t.Error(keys)
		}
		hold(t, m, map[float64]int{0: 1, 1: 5}, cmp.Compare, minus, 2)
	}
}

// R1: under a key that isn't alike itself nothing is ever found, and it leaves no trace.
func TestKeyUnlikeItself(t *testing.T) {
	var j stage.Journal
	m := stage.New[float64, int](&j, func(a, b float64) bool { return a < b })
	m.Set(1, 1)
	m.Set(math.NaN(), 2)
	if v, ok := m.Get(math.NaN()); ok || v != 0 || m.Drop(math.NaN()) {
		t.Error(v, ok)
	}
	hold(t, m, map[float64]int{1: 1}, cmp.Compare, 0)
	if j.Mark() != 1 || !j.Back(0) {
		t.Error(j.Mark())
	}
	hold(t, m, nil, cmp.Compare, 1)
}

// R1: a key that can't be held against anything breaks no call.
func TestKeyBeyondComparing(t *testing.T) {
	var j stage.Journal
	m := stage.New[any, int](&j, func(a, b any) bool {
		x, _ := a.(int)
		y, _ := b.(int)
		return x < y
	})
	m.Set(2, 20)
	m.Set(1, 10)
	for _, k := range []any{[]int{1}, map[int]int{}, func() {}, [1]any{[]int{}}, struct{ x any }{[]byte(nil)}} {
		m.Set(k, 3)
		if v, ok := m.Get(k); ok || v != 0 || m.Drop(k) {
			t.Error(v, ok)
		}
	}
	if !slices.Equal(m.Keys(), []any{1, 2}) || m.Len() != 2 || j.Mark() != 2 {
		t.Error(m.Keys(), m.Len(), j.Mark())
	}
	m.Set(nil, 1)
	if v, ok := m.Get(nil); !ok || v != 1 {
		t.Error("nil is a key like any other")
	}
}

// world is two maps of one journal, and how both should be.
type world struct {
	j    stage.Journal
	m    *stage.Map[int, string]
	n    *stage.Map[string, int]
	was  []state // at each mark, the last one now
	next int     // a value that wasn't there yet
}

// state is what both maps should have.
type state struct {
	m map[int]string
	n map[string]int
}

func newWorld() *world {
	w := &world{was: []state{{map[int]string{}, map[string]int{}}}}
	w.m = stage.New[int, string](&w.j, falling)
	w.n = stage.New[string, int](&w.j, func(a, b string) bool { return a < b })
	return w
}

func (w *world) now() state { return w.was[len(w.was)-1] }

// deed: what it should make of the state.
func (w *world) deed(change func(s state)) {
	s := state{maps.Clone(w.now().m), maps.Clone(w.now().n)}
	change(s)
	w.was = append(w.was, s)
}

// set: under a key of one of both maps.
func (w *world) set(first bool, k int) {
	w.next++
	v := w.next
	if first {
		w.m.Set(k, strconv.Itoa(v))
		w.deed(func(s state) { s.m[k] = strconv.Itoa(v) })
		return
	}
	w.n.Set(strconv.Itoa(k), v)
	w.deed(func(s state) { s.n[strconv.Itoa(k)] = v })
}

// drop: the key of one of both maps.
func (w *world) drop(t *testing.T, first bool, k int) {
	t.Helper()
	text := strconv.Itoa(k)
	_, inM := w.now().m[k]
	_, inN := w.now().n[text]
	if first && w.m.Drop(k) != inM || !first && w.n.Drop(text) != inN {
		t.Fatalf("Drop of %d", k)
	}
	if first && inM || !first && inN {
		w.deed(func(s state) {
			if first {
				delete(s.m, k)
			} else {
				delete(s.n, text)
			}
		})
	}
}

// back: to a mark, which there may not be.
func (w *world) back(t *testing.T, mark int) {
	t.Helper()
	there := mark >= 0 && mark < len(w.was)
	if w.j.Back(mark) != there {
		t.Fatalf("Back(%d) of %d", mark, len(w.was)-1)
	}
	if there {
		w.was = w.was[:mark+1]
	}
}

// P12.1 to P12.3: whatever was done, taken back, and kept, in any order.
func TestWhateverWasDone(t *testing.T) {
	source := rand.New(rand.NewSource(12))
	for range 300 {
		w := newWorld()
		for range 1 + source.Intn(60) {
			first, k := source.Intn(2) == 0, source.Intn(6)
			switch source.Intn(12) {
			case 0, 1, 2:
				w.drop(t, first, k)
			case 3:
				w.back(t, source.Intn(len(w.was)+3)-1)
			case 4:
				w.back(t, max(0, len(w.was)-1-source.Intn(4)))
			case 5:
				if source.Intn(3) == 0 {
					w.j.Keep()
					w.was = []state{w.now()}
				}
			default:
				w.set(first, k)
			}
			if w.j.Mark() != len(w.was)-1 {
				t.Fatalf("Mark: %d; want %d", w.j.Mark(), len(w.was)-1)
			}
			hold(t, w.m, w.now().m, backwards, 0, 1, 2, 3, 4, 5, 6)
			hold(t, w.n, w.now().n, cmp.Compare, "0", "1", "2", "3", "4", "5", "6")
		}
	}
}

// P12.3: what was done and taken back leaves no trace in what is done next, either.
func TestDoneAnew(t *testing.T) {
	var j, k stage.Journal
	m, n := stage.New[int, int](&j, rising), stage.New[int, int](&k, rising)
	for _, key := range []int{5, 3, 8} {
		m.Set(key, key)
		n.Set(key, key)
	}
	for range 3 {
		m.Set(1, 1)
		m.Drop(5)
		m.Set(3, 33)
		m.Drop(3)
		m.Set(5, 55)
		m.Drop(8)
		j.Back(3)
	}
	for _, l := range []*stage.Map[int, int]{m, n} {
		l.Set(9, 9)
		l.Drop(3)
		l.Set(1, 2)
	}
	if !slices.Equal(told(m.All()), told(n.All())) || j.Mark() != k.Mark() || m.Len() != n.Len() {
		t.Error(told(m.All()), told(n.All()), j.Mark(), k.Mark())
	}
	for mark := 6; mark >= 0; mark-- {
		if !j.Back(mark) || !k.Back(mark) || !slices.Equal(told(m.All()), told(n.All())) {
			t.Errorf("back to %d: %v, %v", mark, told(m.All()), told(n.All()))
		}
	}
}

// P12.1 to P12.3: many keys, and many deeds at once.
func TestMany(t *testing.T) {
	const count = 100_000
	var j stage.Journal
	m := stage.New[uint32, int](&j, func(a, b uint32) bool { return a < b })
	key := func(i int) uint32 { return uint32(i) * 2654435761 } // each one another, in no order
	for i := range count {
		m.Set(key(i), i)
	}
	before := told(m.All())
	if len(before) != count || !slices.IsSortedFunc(before, func(a, b pair[uint32, int]) int { return cmp.Compare(a.key, b.key) }) {
		t.Fatal(len(before))
	}
	mark := j.Mark()
	for i := range count {
		if i%2 == 0 {
			m.Drop(key(i))
		} else {
			m.Set(key(i), -i)
		}
		m.Set(key(count+i), i)
	}
	if m.Len() != count/2+count || j.Mark() != mark+2*count {
		t.Error(m.Len(), j.Mark())
	}
	if !j.Back(mark) || !slices.Equal(told(m.All()), before) {
		t.Error("a trace is left")
	}
	if !j.Back(0) || m.Len() != 0 || len(m.Keys()) != 0 {
		t.Error("a key is left")
	}
}
