package tree_test

import (
	"fmt"
	"math/rand"
	"slices"
	"strings"
	"testing"

	"rollbook/api"
	"rollbook/tree"
)

// must: a play goes on, or the test ends.
func must(t *testing.T, what string, fault string) {
	t.Helper()
	if fault != "" {
		t.Fatalf("%s: %s", what, fault)
	}
}

func TestExample(t *testing.T) {
	s := newStore()
	root, e := tree.Put(s, 0, "a", "1")
	want := api.Page{Kind: api.PageLeaf, No: root, Txn: 1, Body: "\x00\x01\x00\x04\x00\x01a\x00\x00\x011"}
	if e != api.OK || len(s.pages) != 1 || s.pages[root] != want {
		t.Errorf("Put(0, a, 1): %d, error %d, pages %v", root, e, s.pages)
	}
	if val, ok, e := tree.Get(s, root, "a"); val != "1" || !ok || e != api.OK {
		t.Errorf("Get(a): %q, %v, error %d", val, ok, e)
	}
	no, ok, e := tree.Del(s, root, "a")
	if no != 0 || !ok || e != api.OK || len(s.made) != 1 || !slices.Equal(s.gone, []int{root}) {
		t.Errorf("Del(a): %d, %v, error %d, made %v, dropped %v", no, ok, e, s.made, s.gone)
	}
}

// A leaf's page has the kind 1, a branch's 2.
func TestLeafAndBranchPages(t *testing.T) {
	p := newPlay()
	for i := range 5 {
		must(t, "put", p.put(padded(i, 100), text(i, 80)))
	}
	kinds := map[int]int{}
	for no := range p.now.look.pages {
		kinds[p.store.pages[no].Kind]++
	}
	if kinds[1] < 2 || kinds[2] != 1 || len(kinds) != 2 {
		t.Errorf("pages of the kinds %v", kinds)
	}
}

// sizes are those of values that the limits divide.
var sizes = []int{0, 1, 95, 96, 97, 98, 483, 484, 485, 486, 967, 968, 969, 970, 1451, 1452, 1453, 3387, 3388, 3389, 3871, 3872, 3873, 3999, 4000}

func TestPutKeys(t *testing.T) {
	for _, n := range []int{1, 2, 119, 120} {
		for _, c := range []string{"k", "\x00", "\xff"} {
			p := newPlay()
			key := strings.Repeat(c, n)
			must(t, fmt.Sprint(n, " bytes"), p.put(key, "v"))
			must(t, fmt.Sprint(n, " bytes"), p.put(key, "w"))
			must(t, fmt.Sprint(n, " bytes"), p.del(key))
		}
	}
	p := newPlay()
	must(t, "put", p.put("k", "v"))
	for _, root := range []int{0, p.now.root, 77, -1, 1 << 40} {
		for _, n := range []int{0, 121, 122, 4000, 65536, 100000} {
			for _, v := range []int{0, 97, 4000, 4001, 100000} {
				p.store.begin()
				no, e := tree.Put(p.store, root, strings.Repeat("k", n), strings.Repeat("v", v))
				if no != 0 || e != api.ErrArg || p.store.calls != [3]int{} {
					t.Errorf("Put at %d of a key of %d bytes, %d of the value: %d, error %d, calls %v", root, n, v, no, e, p.store.calls)
				}
			}
		}
		for _, n := range []int{1, 120} {
			for _, v := range []int{4001, 4002, 8000, 70000} {
				p.store.begin()
				no, e := tree.Put(p.store, root, strings.Repeat("k", n), strings.Repeat("v", v))
				if no != 0 || e != api.ErrLong || p.store.calls != [3]int{} {
					t.Errorf("Put at %d of a key of %d bytes, %d of the value: %d, error %d, calls %v", root, n, v, no, e, p.store.calls)
				}
			}
		}
	}
}

func TestPutValues(t *testing.T) {
	for _, n := range sizes {
		p := newPlay()
		must(t, fmt.Sprint(n, " bytes"), p.put("key", text(n, n)))
		if len(p.store.pages) != 1+piecesOf(text(n, n)) {
			t.Errorf("%d bytes: %d pages", n, len(p.store.pages))
		}
		must(t, fmt.Sprint(n, " bytes, another key"), p.put("kez", "short"))
		must(t, fmt.Sprint(n, " bytes, another key"), p.del("kez"))
		must(t, fmt.Sprint(n, " bytes, deleted"), p.del("key"))
		if len(p.store.pages) != 0 {
			t.Errorf("%d bytes, deleted: %d pages", n, len(p.store.pages))
		}
	}
}

// How many pieces values have is known by hand.
func TestPieces(t *testing.T) {
	for n, want := range map[int]int{0: 0, 96: 0, 97: 1, 484: 1, 485: 2, 968: 2, 969: 3, 3872: 8, 3873: 9, 4000: 9} {
		s := newStore()
		if _, e := tree.Put(s, 0, "k", text(n, n)); e != api.OK || len(s.pages) != 1+want {
			t.Errorf("%d bytes: error %d, %d pages", n, e, len(s.pages))
		}
	}
}

// A value takes the place of another one: of each size one of each other.
func TestPutAgain(t *testing.T) {
	for _, n := range sizes {
		for _, m := range sizes {
			p := newPlay()
			for _, key := range []string{"a", "k", "z"} {
				must(t, "put", p.put(key, text(len(key), 30)))
			}
			what := fmt.Sprintf("%d bytes in the place of %d", m, n)
			must(t, what, p.put("k", text(1, n)))
			p.save(1)
			must(t, what, p.put("k", text(2, m)))
			if len(p.now.look.pages) != 1+piecesOf(text(2, m)) {
				t.Errorf("%s: %d pages", what, len(p.now.look.pages))
			}
			must(t, what+", deleted", p.del("k"))
		}
	}
}

// Leaves that a short value in the place of a long one leaves with too few bytes are put together; those of just enough may stay.
func TestPutLess(t *testing.T) {
	for n := range maxInline + 1 {
		for _, key := range []string{padded(0, 100), padded(1, 100), padded(2, 100), padded(3, 100), padded(4, 100)} {
			p := newPlay()
			for i := range 5 {
				must(t, "put", p.put(padded(i, 100), text(i, 96)))
			}
			must(t, "del", p.del(padded(0, 100)))
			must(t, fmt.Sprint(n, " bytes at ", key), p.put(key, text(9, n)))
			for i := range 5 {
				must(t, fmt.Sprint(n, " bytes at ", key, ", then"), p.put(padded(i, 100), ""))
			}
		}
	}
}

// Keys that are not there: Get finds nothing, Del answers that very root, of a tree without keys too.
func TestNotThere(t *testing.T) {
	p := newPlay()
	none := []string{"", "a", "\x00", "\xff", strings.Repeat("k", 120), strings.Repeat("k", 121), strings.Repeat("\xff", 5000)}
	notThere(t, p, none)
	for i := range 60 {
		must(t, "put", p.put(padded(2*i, 50), text(i, 60)))
		if i%10 == 0 {
			notThere(t, p, none)
		}
	}
	if p.now.look.depth < 3 {
		t.Fatal("depth", p.now.look.depth)
	}
	for i := range 60 {
		none = append(none, padded(2*i+1, 50), padded(2*i, 51), padded(2*i, 49))
	}
	notThere(t, p, none)
	// A root that is a leaf without cells, as no call answers it, is well shaped too.
	p = newPlay()
	p.now.root = p.store.add(0, api.PageLeaf, "\x00\x00")
	p.now.look = lookAt(p.store, p.now.root)
	must(t, "an empty leaf", reads(p.store, p.now))
	notThere(t, p, none)
	must(t, "an empty leaf", p.put("k", "v"))
}

func notThere(t *testing.T, p *play, keys []string) {
	t.Helper()
	for _, key := range keys {
		p.store.begin()
		if val, ok, e := tree.Get(p.store, p.now.root, key); val != "" || ok || e != api.OK {
			t.Errorf("Get(%q): %q, %v, error %d", key, val, ok, e)
		}
		must(t, fmt.Sprintf("Del(%q)", key), p.del(key))
	}
}

// A tree without keys needs no pages.
func TestEmptyTree(t *testing.T) {
	s := newStore()
	if val, ok, e := tree.Get(s, 0, "k"); val != "" || ok || e != api.OK {
		t.Errorf("Get: %q, %v, error %d", val, ok, e)
	}
	if no, ok, e := tree.Del(s, 0, "k"); no != 0 || ok || e != api.OK {
		t.Errorf("Del: %d, %v, error %d", no, ok, e)
	}
	if l, e := tree.Reach(s, 0); len(l) != 0 || e != api.OK {
		t.Errorf("Reach: %v, error %d", l, e)
	}
	if s.calls != [3]int{} {
		t.Errorf("calls %v", s.calls)
	}
}

func TestValue(t *testing.T) {
	s := newStore()
	for _, n := range sizes {
		val := text(n, n)
		c := api.Cell{Key: "key", Val: val}
		if n > maxInline {
			c = api.Cell{Key: "key", Over: s.addLong(val), Size: n}
		}
		// Whatever its key: that isn't looked at.
		for _, key := range []string{"k", "\x00", strings.Repeat("k", 120), "", strings.Repeat("k", 121)} {
			c.Key = key
			s.begin()
			if got, e := tree.Value(s, c); got != val || e != api.OK || s.calls[onLoad] != piecesOf(val) {
				t.Errorf("a value of %d bytes: %d bytes, error %d, calls %v", n, len(got), e, s.calls)
			}
		}
	}
	if len(s.made)+len(s.gone) > 0 {
		t.Error("made", s.made, "dropped", s.gone)
	}
}

// Reach's answers are new memory each time, and rising, however the pages lie.
func TestReachAnswers(t *testing.T) {
	p := newPlay()
	p.store.down = true
	for i := range 30 {
		must(t, "put", p.put(padded(i*11%30, 100), text(i, 90+i*20)))
	}
	a, e := tree.Reach(p.store, p.now.root)
	b, f := tree.Reach(p.store, p.now.root)
	if e != api.OK || f != api.OK || len(a) < 40 || !slices.Equal(a, sorted(p.now.look.pages)) {
		t.Fatal(a, e, f)
	}
	clear(a)
	if !slices.Equal(b, sorted(p.now.look.pages)) {
		t.Error("two answers share memory")
	}
}

// What a call does hangs on what it is handed alone.
func TestSameAgain(t *testing.T) {
	for _, k := range kinds {
		var first []string
		for range 3 {
			var log []string
			s, root := newStore(), 0
			r := rand.New(rand.NewSource(5))
			for c := range 120 {
				i := r.Intn(k.keys)
				s.begin()
				if c%3 < 2 {
					root, _ = tree.Put(s, root, k.key(i), k.val(r, i))
				} else {
					root, _, _ = tree.Del(s, root, k.key(i))
				}
				log = append(log, fmt.Sprint(root, s.made, s.gone, s.calls))
				s.sweep()
			}
			if first == nil {
				first = log
			}
			if !slices.Equal(log, first) {
				t.Errorf("%s: not the same again", k.name)
			}
		}
	}
}

// A root's child that is left alone takes its place: of a tree of any depth one key that is left is one leaf, whichever it is.
func TestOneKeyLeft(t *testing.T) {
	for n := 2; n <= 40; n += 3 {
		for _, stays := range []int{0, 1, n / 2, n - 1} {
			p := newPlay()
			for i := range n {
				must(t, "put", p.put(padded(i, maxKey), text(i, maxInline)))
			}
			if (n > 2) != (p.now.look.depth > 1) {
				t.Fatalf("%d keys: %d deep", n, p.now.look.depth)
			}
			for i := range n {
				if i != stays {
					must(t, fmt.Sprintf("del of %d of %d", i, n), p.del(padded(i, maxKey)))
				}
			}
			if len(p.store.pages) != 1 || p.store.pages[p.now.root].Kind != 1 {
				t.Errorf("key %d of %d left: %d pages", stays, n, len(p.store.pages))
			}
		}
	}
}

// Pages that nobody hands in: no call panics, each that needs one tells an error.
func TestNilPages(t *testing.T) {
	if val, ok, e := tree.Get(nil, 0, "k"); val != "" || ok || e != api.OK {
		t.Errorf("Get of 0: %q, %v, error %d", val, ok, e)
	}
	if no, ok, e := tree.Del(nil, 0, "k"); no != 0 || ok || e != api.OK {
		t.Errorf("Del of 0: %d, %v, error %d", no, ok, e)
	}
	if l, e := tree.Reach(nil, 0); len(l) != 0 || e != api.OK {
		t.Errorf("Reach of 0: %v, error %d", l, e)
	}
	if val, e := tree.Value(nil, api.Cell{Key: "k", Val: "v"}); val != "v" || e != api.OK {
		t.Errorf("Value: %q, error %d", val, e)
	}
	if val, e := tree.Value(nil, api.Cell{Key: "k", Over: 3, Size: 97}); val != "" || e != api.ErrNil {
		t.Errorf("Value: %q, error %d", val, e)
	}
	for _, root := range []int{-1, 1, 511, 512} {
		if val, ok, e := tree.Get(nil, root, "k"); val != "" || ok || e != api.ErrNil {
			t.Errorf("Get of %d: %q, %v, error %d", root, val, ok, e)
		}
		if no, ok, e := tree.Del(nil, root, "k"); no != 0 || ok || e != api.ErrNil {
			t.Errorf("Del of %d: %d, %v, error %d", root, no, ok, e)
		}
		if l, e := tree.Reach(nil, root); len(l) != 0 || e != api.ErrNil {
			t.Errorf("Reach of %d: %v, error %d", root, l, e)
		}
		if no, e := tree.Put(nil, root, "k", "v"); no != 0 || e != api.ErrNil {
			t.Errorf("Put of %d: %d, error %d", root, no, e)
		}
	}
	for _, n := range []int{0, 97} {
		if no, e := tree.Put(nil, 0, "k", text(1, n)); no != 0 || e != api.ErrNil {
			t.Errorf("Put of 0, %d bytes: %d, error %d", n, no, e)
		}
	}
	if no, e := tree.Put(nil, 0, "", "v"); no != 0 || e != api.ErrArg {
		t.Errorf("Put of no key: %d, error %d", no, e)
	}
	if no, e := tree.Put(nil, 0, "k", text(1, 4001)); no != 0 || e != api.ErrLong {
		t.Errorf("Put of too long a value: %d, error %d", no, e)
	}
}
