package tree_test

import (
	"fmt"
	"maps"
	"math/rand"
	"slices"
	"strings"
	"testing"

	"rollbook/api"
	"rollbook/tree"
)

// version is a tree, and what it was when it was made.
type version struct {
	root int
	look *look
	want map[string]string
}

// play is a tree, what its keys must have, and elder trees whose pages stay.
type play struct {
	store *store
	now   version
	elder []version
}

func newPlay() *play {
	s := newStore()
	return &play{store: s, now: version{look: lookAt(s, 0), want: map[string]string{}}}
}

// put and del tell what is amiss; nothing, if all is as it must be.
func (p *play) put(key, val string) string {
	p.store.begin()
	root, e := tree.Put(p.store, p.now.root, key, val)
	if e != api.OK {
		return fmt.Sprintf("Put(%q, %d bytes): error %d", key, len(val), e)
	}
	want := maps.Clone(p.now.want)
	want[key] = val
	return p.on(root, key, want, piecesOf(val))
}

func (p *play) del(key string) string {
	p.store.begin()
	root, ok, e := tree.Del(p.store, p.now.root, key)
	_, there := p.now.want[key]
	if ok != there || e != api.OK {
		return fmt.Sprintf("Del(%q): %v, error %d; there: %v", key, ok, e, there)
	}
	if !there {
		if root != p.now.root || len(p.store.made)+len(p.store.gone) > 0 {
			return fmt.Sprintf("Del(%q), which isn't there: root %d of %d, made %v, dropped %v", key, root, p.now.root, p.store.made, p.store.gone)
		}
		return ""
	}
	want := maps.Clone(p.now.want)
	delete(want, key)
	return p.on(root, key, want, 0)
}

// piecesOf: how many pages a value's pieces need.
func piecesOf(val string) int {
	if len(val) <= maxInline {
		return 0
	}
	return (len(val) + pieceRoom - 1) / pieceRoom
}

// on: the play goes on with that tree, if it is the one that it must be.
func (p *play) on(root int, key string, want map[string]string, pieces int) string {
	old, s := p.now, p.store
	now := version{root: root, look: lookAt(s, root), want: want}
	switch {
	case len(s.wrong) > 0:
		return strings.Join(s.wrong, "; ")
	case len(now.look.amiss) > 0:
		return "not well shaped: " + strings.Join(now.look.amiss, "; ")
	case !maps.Equal(now.look.vals, want):
		return fmt.Sprintf("keys and values: %d of %d, or other ones", len(now.look.vals), len(want))
	}
	if f := changed(s, old.look, now.look); f != "" {
		return f
	}
	if f := noOthers(s, old, now, key, pieces); f != "" {
		return f
	}
	for _, v := range append(p.elder, old) {
		if f := v.look.same(lookAt(s, v.root)); f != "" {
			return "an elder tree: " + f
		}
	}
	p.now = now
	s.keep(p.kept()...)
	return reads(s, now)
}

// kept: the trees whose pages stay.
func (p *play) kept() []*look {
	l := []*look{p.now.look}
	for _, v := range p.elder {
		l = append(l, v.look)
	}
	return l
}

// save: the tree stays, whatever comes; of those that stay so many at the most.
func (p *play) save(most int) {
	p.elder = append(p.elder, p.now)
	if len(p.elder) > most {
		p.elder = p.elder[1:]
	}
	p.store.keep(p.kept()...)
}

// changed: were just the pages made that are the new tree's alone, and those dropped that are the elder one's alone?
func changed(s *store, old, now *look) string {
	made, gone := map[int]bool{}, map[int]bool{}
	for _, no := range s.made {
		made[no] = true
	}
	for _, no := range s.gone {
		if made[no] {
			delete(made, no)
		} else {
			gone[no] = true
		}
	}
	if want := without(now.pages, old.pages); !maps.Equal(made, want) {
		return fmt.Sprintf("made %v, the new tree's alone are %v", sorted(made), sorted(want))
	}
	if want := without(old.pages, now.pages); !maps.Equal(gone, want) {
		return fmt.Sprintf("dropped %v, the elder tree's alone are %v", sorted(gone), sorted(want))
	}
	return ""
}

func without(a, b map[int]bool) map[int]bool {
	m := maps.Clone(a)
	maps.DeleteFunc(m, func(no int, _ bool) bool { return b[no] })
	return m
}

// noOthers: nothing was made but nodes on the way to a key's leaf, those that they were put together with or cut into, and pieces.
func noOthers(s *store, old, now version, key string, pieces int) string {
	var nodes [12]int // that were made, by their height
	for _, no := range s.made {
		if s.pages[no].Kind == api.PageOver {
			pieces--
		} else if h, ok := now.look.height[no]; ok {
			nodes[h]++
		}
	}
	if pieces != 0 {
		return fmt.Sprintf("%d pieces too few were made", pieces)
	}
	way := old.look.way(old.root, key)
	for h, n := range nodes {
		if h < len(way) && n > 2 || h == len(way) && n > 1 || h > len(way) && n > 0 {
			return fmt.Sprintf("%d nodes of height %d were made, where %d are on the way", n, h, len(way))
		}
	}
	for _, no := range s.gone {
		h, ok := old.look.height[no]
		if ok && h < len(way) && way[h] != no && !old.look.neighbours(way[h], no) {
			return fmt.Sprintf("page %d was dropped, which is neither on the way %v nor beside it", no, way)
		}
	}
	return ""
}

// neighbours: do two nodes stand side by side below one?
func (l *look) neighbours(a, b int) bool {
	kids := l.kids[l.above[a]]
	i, j := slices.Index(kids, a), slices.Index(kids, b)
	return i >= 0 && j >= 0 && (i-j == 1 || j-i == 1)
}

// reads: do Get and Reach tell what a tree is, and is nothing made or dropped by them?
func reads(s *store, v version) string {
	s.begin()
	for i, key := range v.look.keys {
		// Of many keys some, other ones each time.
		if len(v.look.keys) > 12 && i%9 != len(v.look.keys)%9 {
			continue
		}
		for _, k := range []string{key, key + "\x00", key[:len(key)-1], key[:len(key)-1] + string(key[len(key)-1]-1)} {
			want, there := v.want[k]
			got, ok, e := tree.Get(s, v.root, k)
			if got != want || ok != there || e != api.OK {
				return fmt.Sprintf("Get(%q): %d bytes, %v, error %d; there: %v, %d bytes", k, len(got), ok, e, there, len(want))
			}
		}
	}
	l, e := tree.Reach(s, v.root)
	if !slices.Equal(l, sorted(v.look.pages)) || e != api.OK {
		return fmt.Sprintf("Reach: %v, error %d; it has %v", l, e, sorted(v.look.pages))
	}
	if len(s.made)+len(s.gone) > 0 {
		return fmt.Sprintf("made %v and dropped %v by reading", s.made, s.gone)
	}
	return ""
}

// text: so many bytes, that hang on a seed.
func text(seed, n int) string {
	b := make([]byte, n)
	x := uint32(seed)*2654435761 + 12345
	for i := range b {
		x = x*1664525 + 1013904223
		b[i] = byte(x >> 24)
	}
	return string(b)
}

// kind is what keys and values of a play are like.
type kind struct {
	name string
	keys int
	key  func(i int) string // rising with i
	val  func(r *rand.Rand, i int) string
}

// padded: a number as a key of so many bytes, the number ahead.
func padded(i, n int) string {
	return fmt.Sprintf("%03d", i) + strings.Repeat("-", n-3)
}

// shared: a number as a key of so many bytes, the number at its end.
func shared(i, n int) string {
	return strings.Repeat("-", n-3) + fmt.Sprintf("%03d", i)
}

// uneven: keys of one and of many bytes, rising.
func uneven(i int) string {
	k := string([]byte{byte(1 + i/2)})
	if i%2 == 1 {
		k += strings.Repeat("\xff", 119-i%5)
	}
	return k
}

var kinds = []kind{
	{"greatest cells", 40, func(i int) string { return padded(i, maxKey) }, func(r *rand.Rand, i int) string { return text(i, maxInline) }},
	{"long keys", 60, func(i int) string { return shared(i, maxKey) }, func(r *rand.Rand, i int) string { return "" }},
	{"short and long keys", 150, uneven, func(r *rand.Rand, i int) string { return text(i, 90-r.Intn(91)*(i%3)/2) }},
	{"short keys", 300, func(i int) string { return fmt.Sprintf("%03d", i) }, func(r *rand.Rand, i int) string { return text(i, 50+r.Intn(47)) }},
	{"long values", 24, func(i int) string { return padded(i, 100) }, func(r *rand.Rand, i int) string {
		return text(i, []int{0, 1, 95, 96, 97, 98, 484, 485, 486, 968, 969, 970, 1452, 1453, 3999, 4000}[r.Intn(16)])
	}},
	{"all", 80, func(i int) string { return shared(i, 3+i*i%118) }, func(r *rand.Rand, i int) string {
		return text(i, []int{0, 1, 40, 96, 97, 500}[r.Intn(6)])
	}},
}

var orders = []string{"rising", "falling", "mixed", "from both ends", "from the middle"}

// inOrder: the numbers below n.
func inOrder(name string, n int) []int {
	l := make([]int, n)
	for i := range l {
		l[i] = i
	}
	switch name {
	case "falling":
		slices.Reverse(l)
	case "mixed":
		l = rand.New(rand.NewSource(int64(n))).Perm(n)
	case "from both ends":
		for i := range l {
			l[i] = i / 2
			if i%2 == 1 {
				l[i] = n - 1 - i/2
			}
		}
	case "from the middle":
		l = inOrder("from both ends", n)
		slices.Reverse(l)
	}
	return l
}

// Keys are put in an order, and deleted in another one, till none is there; behind each call all is held against the words.
func TestOrders(t *testing.T) {
	t.Parallel()
	for i, k := range kinds {
		for j, up := range orders {
			for l, down := range orders {
				// Of the more keys the fewer of the pairs, of each order one at least.
				if (i+j+5*l)%(1+k.keys/20) == 0 || j == l && k.keys < 100 {
					playOrders(t, k, up, down)
				}
			}
		}
	}
}

func playOrders(t *testing.T, k kind, up, down string) {
	t.Helper()
	r := rand.New(rand.NewSource(9))
	p := newPlay()
	deepest := 0
	for _, i := range inOrder(up, k.keys) {
		if f := p.put(k.key(i), k.val(r, i)); f != "" {
			t.Fatalf("%s put %s: key %d: %s", k.name, up, i, f)
		}
		deepest = max(deepest, p.now.look.depth)
	}
	if deepest < 3 {
		t.Fatalf("%s put %s: %d deep", k.name, up, deepest)
	}
	for _, i := range inOrder(down, k.keys) {
		if f := p.del(k.key(i)); f != "" {
			t.Fatalf("%s put %s, deleted %s: key %d: %s", k.name, up, down, i, f)
		}
	}
	if p.now.root != 0 || len(p.store.pages) != 0 {
		t.Fatalf("%s put %s, deleted %s: root %d, %d pages", k.name, up, down, p.now.root, len(p.store.pages))
	}
}

// With the least cells a tree that is three deep has some thousand keys: it is held against the words now and then.
func TestLeastCells(t *testing.T) {
	t.Parallel()
	const n = 2600
	for _, up := range orders {
		for _, down := range orders[len(up)%4:][:1] {
			s, root := newStore(), 0
			want := map[string]string{}
			for c, i := range append(inOrder(up, n), inOrder(down, n)...) {
				key := string([]byte{byte(i >> 8), byte(i)})
				var e api.Errno
				s.begin()
				if c < n {
					root, e = tree.Put(s, root, key, "")
					want[key] = ""
				} else {
					root, _, e = tree.Del(s, root, key)
					delete(want, key)
				}
				s.sweep()
				if e != api.OK || len(s.wrong) > 0 {
					t.Fatalf("put %s, deleted %s: call %d: error %d %v", up, down, c, e, s.wrong)
				}
				if c%397 == 396 || c == n-1 || c > 2*n-3 {
					leastCells(t, s, root, want, c == n-1)
				}
			}
			if root != 0 || len(s.pages) != 0 {
				t.Fatalf("put %s, deleted %s: root %d, %d pages", up, down, root, len(s.pages))
			}
		}
	}
}

func leastCells(t *testing.T, s *store, root int, want map[string]string, deep bool) {
	t.Helper()
	l := lookAt(s, root)
	if len(l.amiss) > 0 || !maps.Equal(l.vals, want) || len(s.pages) != len(l.pages) || deep && l.depth < 3 {
		t.Fatalf("%d keys of %d, %d pages of %d, %d deep: %v", len(l.vals), len(want), len(l.pages), len(s.pages), l.depth, l.amiss)
	}
}

// Longer plays, that grow and shrink in turns, with elder trees that stay.
func TestPlays(t *testing.T) {
	t.Parallel()
	for seed := range 10 {
		for _, k := range kinds {
			if f := playLong(k, int64(seed), 160); f != "" {
				t.Fatalf("%s, seed %d: %s", k.name, seed, f)
			}
		}
	}
}

func playLong(k kind, seed int64, steps int) string {
	r := rand.New(rand.NewSource(seed))
	p := newPlay()
	p.store.down = seed%2 == 1
	for c := range steps {
		i := r.Intn(k.keys)
		f := ""
		if r.Intn(10) < 7 == (c/60%2 == 0) {
			f = p.put(k.key(i), k.val(r, i+c))
		} else {
			f = p.del(k.key(i))
		}
		if f != "" {
			return fmt.Sprintf("step %d: %s", c, f)
		}
		if r.Intn(20) == 0 {
			p.save(2)
		}
	}
	return ""
}
