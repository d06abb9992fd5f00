package tree_test

import (
	"fmt"
	"maps"
	"math"
	"math/rand"
	"slices"
	"strings"
	"testing"

	"rollbook/api"
	"rollbook/tree"
)

// ask is one call of a tree; bare: whether all that it answers beside the error is zero.
type ask struct {
	name string
	call func(p tree.Pages, root int) (bare bool, e api.Errno)
}

func getting(key string) ask {
	return ask{fmt.Sprintf("Get(%.12q)", key), func(p tree.Pages, root int) (bool, api.Errno) {
		val, ok, e := tree.Get(p, root, key)
		return val == "" && !ok, e
	}}
}

func putting(key, val string) ask {
	return ask{fmt.Sprintf("Put(%.12q, %d bytes)", key, len(val)), func(p tree.Pages, root int) (bool, api.Errno) {
		no, e := tree.Put(p, root, key, val)
		return no == 0, e
	}}
}

func deleting(key string) ask {
	return ask{fmt.Sprintf("Del(%.12q)", key), func(p tree.Pages, root int) (bool, api.Errno) {
		no, ok, e := tree.Del(p, root, key)
		return no == 0 && !ok, e
	}}
}

func valuing(c api.Cell) ask {
	return ask{fmt.Sprintf("Value(%.60v)", c), func(p tree.Pages, root int) (bool, api.Errno) {
		val, e := tree.Value(p, c)
		return val == "", e
	}}
}

var reaching = ask{"Reach", func(p tree.Pages, root int) (bool, api.Errno) {
	l, e := tree.Reach(p, root)
	return len(l) == 0, e
}}

// asks: some of each call.
func asks(keys []string, vals []string) []ask {
	l := []ask{reaching}
	for _, k := range keys {
		l = append(l, getting(k), deleting(k))
		if k == "" {
			continue
		}
		for _, v := range vals {
			l = append(l, putting(k, v))
		}
	}
	return l
}

// otherErrors are what Pages may answer: errors of api, and others.
var otherErrors = []api.Errno{1, 2, 3, 4, 5, 6, 7, 8, 9, 10, 11, 12, 13, 14, 15, 16, 17, 18, 19, 20, 21, 99, -1, math.MaxInt, math.MinInt}

// trees: plays of several kinds, with trees of several depths.
func trees(t *testing.T) []*play {
	l := []*play{newPlay(), twofold(5)}
	for i, k := range kinds {
		r := rand.New(rand.NewSource(int64(i)))
		for _, n := range []int{1, 3, 12, 40} {
			p := newPlay()
			for c := range n {
				must(t, k.name, p.put(k.key(c*7%k.keys), k.val(r, c)))
			}
			l = append(l, p)
		}
		for len(l)%3 != 0 {
			if p, ok := built(r, someKeys(r, k)); ok {
				l = append(l, p)
			}
		}
	}
	return l
}

// sample: some keys that a tree has, and some that it hasn't.
func sample(p *play) []string {
	keys := []string{"a", "050"}
	for i, k := range p.now.look.keys {
		n := len(p.now.look.keys)
		if i == 0 || i == n-1 || i == n/2 || i == n/3 || len(p.now.want[k]) > 484 && i%3 == 0 {
			keys = append(keys, k)
		}
	}
	return keys
}

// Pages' errors are answered as they are, and end a call: at each call that there is. Nothing is dropped ahead of that, so the elder tree is there.
func TestErrors(t *testing.T) {
	t.Parallel()
	failures := 0
	for i, p := range trees(t) {
		l := asks(sample(p), []string{"", text(i, 96), text(i, 1000)})
		for _, k := range p.now.look.keys {
			if pieces := p.now.look.pieces[k]; len(pieces) > 0 {
				l = append(l, valuing(api.Cell{Key: k, Over: pieces[0], Size: len(p.now.want[k])}))
			}
		}
		for _, a := range l {
			s := p.store.fresh()
			if _, e := a.call(s, p.now.root); e != api.OK || len(s.wrong) > 0 {
				t.Fatalf("tree %d: %s: error %d %v", i, a.name, e, s.wrong)
			}
			for kind, n := range s.calls {
				for c := 1; c <= n; c++ {
					failures++
					failing(t, p, a, kind, c, otherErrors[failures%len(otherErrors)])
				}
			}
		}
	}
	if failures < 5000 {
		t.Error("failures", failures)
	}
}

func failing(t *testing.T, p *play, a ask, kind, call int, with api.Errno) {
	t.Helper()
	s := p.store.fresh()
	s.failKind, s.failCall, s.failWith = kind, call, with
	bare, e := a.call(s, p.now.root)
	what := fmt.Sprintf("%s, whose %s %d fails with %d", a.name, callNames[kind], call, with)
	if e != with || !bare {
		t.Fatalf("%s: error %d, all else zero: %v", what, e, bare)
	}
	if len(s.wrong) > 0 || s.calls[kind] != call {
		t.Fatalf("%s: %v, calls %v", what, s.wrong, s.calls)
	}
	if kind != onDrop && len(s.gone) > 0 {
		t.Fatalf("%s: dropped %v", what, s.gone)
	}
	if f := p.now.look.same(lookAt(s, p.now.root)); f != "" {
		t.Fatalf("%s: the elder tree: %s", what, f)
	}
}

// Pages that have so many pages left: each call that needs more answers ErrFull, and drops nothing; with as many as it needs it is done.
func TestNoPageLeft(t *testing.T) {
	t.Parallel()
	for i, p := range trees(t) {
		for _, a := range asks(sample(p), []string{"", text(i, 96), text(i, 1000), text(i, 4000)}) {
			s := p.store.fresh()
			a.call(s, p.now.root)
			for left := 0; left <= len(s.made); left++ {
				full := p.store.fresh()
				for no := 1; no <= lastPage-left; no++ {
					if _, ok := full.pages[no]; !ok && free(full) > left {
						full.add(no, api.PageFree, "")
					}
				}
				bare, e := a.call(full, p.now.root)
				if left == len(s.made) && e == api.OK {
					continue
				}
				if e != api.ErrFull || !bare || len(full.gone)+len(full.wrong) > 0 || left == len(s.made) {
					t.Fatalf("tree %d: %s with %d pages left of %d: error %d, dropped %v %v", i, a.name, left, len(s.made), e, full.gone, full.wrong)
				}
				if f := p.now.look.same(lookAt(full, p.now.root)); f != "" {
					t.Fatalf("tree %d: %s with %d pages left: the elder tree: %s", i, a.name, left, f)
				}
			}
		}
	}
}

func free(s *store) int {
	return lastPage - len(s.pages)
}

// broken is a tree that isn't well shaped, or none at all.
type broken struct {
	name  string
	pages tree.Pages
	root  int
	reach int // what Reach must answer: 0: it isn't said
}

const anyError = -1

// ends: does each call end, without a panic, and with an error as the words say, or an answer?
func ends(t *testing.T, b broken, l []ask) {
	t.Helper()
	for _, a := range l {
		pages := b.pages
		s, kept := pages.(*store)
		if kept {
			s = s.fresh()
			pages = s
		}
		bare, e, thrown := guarded(a, pages, b.root)
		switch {
		case thrown != nil:
			t.Errorf("%s: %s: %v", b.name, a.name, thrown)
		case e != api.OK && !bare:
			t.Errorf("%s: %s: more than the error %d", b.name, a.name, e)
		case e != api.OK && e != api.ErrForm && (!kept || !s.failed):
			t.Errorf("%s: %s: error %d, which isn't the pages'", b.name, a.name, e)
		case kept && oddPage(s) != "":
			t.Errorf("%s: %s: %s", b.name, a.name, oddPage(s))
		case kept && slices.ContainsFunc(s.wrong, func(w string) bool { return strings.Contains(w, "behind") }):
			t.Errorf("%s: %s: %v", b.name, a.name, s.wrong)
		}
		if a.name == reaching.name && (b.reach == anyError && e == api.OK || b.reach > 0 && e != api.Errno(b.reach)) {
			t.Errorf("%s: Reach: error %d instead of %d", b.name, e, b.reach)
		}
	}
}

// oddPage: what is amiss with a page that was made; nothing, if each one may be, whatever tree it is of.
func oddPage(s *store) string {
	for _, no := range s.made {
		p := s.pages[no]
		cells, amiss := cellsOf(p.Kind == leafPage, p.Body)
		rise := slices.IsSortedFunc(cells, func(a, b api.Cell) int { return strings.Compare(a.Key, b.Key) })
		if len(p.Body) > room || p.Kind != overPage && (amiss != "" || !rise) {
			return fmt.Sprintf("made page %d of kind %d with %d bytes %s", no, p.Kind, len(p.Body), amiss)
		}
	}
	return ""
}

func guarded(a ask, p tree.Pages, root int) (bare bool, e api.Errno, thrown any) {
	defer func() { thrown = recover() }()
	bare, e = a.call(p, root)
	return
}

// someAsks are those of trees that aren't well shaped; their keys are single letters.
func someAsks() []ask {
	l := asks([]string{"", "a", "b", "c", "f", "k", "m", "n", "z", "\xff", strings.Repeat("k", 120)}, []string{"", "v", text(1, 96), text(2, 97), text(3, 1500)})
	for _, c := range []api.Cell{{Key: "k", Over: 1, Size: 97}, {Key: "k", Over: 2, Size: 484}, {Key: "k", Over: 2, Size: 485}, {Key: "k", Over: 3, Size: 4000}, {Key: "k", Over: 511, Size: 1000}} {
		l = append(l, valuing(c))
	}
	return l
}

// full: a leaf's bytes with these keys, and enough of them: where it's one, another one behind it.
func full(keys ...string) string {
	if len(keys) == 1 {
		keys = append(keys, keys[0]+"1")
	}
	var l []api.Cell
	for _, k := range keys {
		l = append(l, api.Cell{Key: k, Val: text(len(k), 96)})
	}
	return leafBytes(l...)
}

// fork: a branch's bytes with children from keys on; the first one's key is empty.
func fork(kids ...any) string {
	var l []api.Cell
	for i := 0; i < len(kids); i += 2 {
		l = append(l, api.Cell{Key: kids[i].(string), Child: kids[i+1].(int)})
	}
	return branchBytes(l...)
}

// with: pages of these bodies, from 1 on; a body's kind stands ahead of it.
func with(bodies ...any) *store {
	s := newStore()
	for i := 0; i < len(bodies); i += 2 {
		s.add(i/2+1, bodies[i].(int), bodies[i+1].(string))
	}
	return s
}

const (
	leafPage   = api.PageLeaf
	branchPage = api.PageBranch
	overPage   = api.PageOver
)

// otherPages are roots that are none, or pages of other kinds, and bodies that are no node's.
func otherPages() []broken {
	var l []broken
	s := with(leafPage, full("a"), branchPage, fork("", 1, "m", 3), leafPage, full("m"))
	for _, root := range []int{-1, 4, 77, 511, 512, 513, 1 << 32, 1<<32 + 1, 1<<32 + 2, -1 << 32, math.MaxInt, math.MinInt, -2, -511, -512} {
		l = append(l, broken{fmt.Sprint("root ", root), s, root, anyError})
	}
	for _, kind := range []int{0, 3, 4, 5, -1, 257, 258, math.MaxInt, math.MinInt} {
		for i, body := range []string{full("a"), fork("", 1, "m", 3), fork("", 4, "m", 5), fork("", 4), "", "\x00\x00", pieceBytes(0, text(1, 97))} {
			at := func(no int) *store {
				s := with(branchPage, fork("", 2, "m", 3), leafPage, full("a"), leafPage, full("m"), leafPage, full("b"), leafPage, full("n"))
				s.add(no, kind, body)
				return s
			}
			for no := 1; no <= 3; no++ {
				l = append(l, broken{fmt.Sprint("page ", no, " of kind ", kind, " body ", i), at(no), 1, anyError})
			}
		}
	}
	good := full("a")
	for i, body := range []string{"", "\x00", "\x00\x01", "\xff\xff", good[:len(good)-1], good + "\x00", good + text(1, 600), text(1, 488), text(2, 489), fork("", 2, "m", 3), pieceBytes(0, "x")} {
		l = append(l, broken{fmt.Sprint("leaf's body ", i), with(leafPage, body), 1, 0})
		l = append(l, broken{fmt.Sprint("leaf's body ", i, " below"), with(branchPage, fork("", 2, "m", 3), leafPage, body, leafPage, full("m")), 1, 0})
		l = append(l, broken{fmt.Sprint("leaf's body ", i, " beside"), with(branchPage, fork("", 2, "m", 3), leafPage, leafBytes(api.Cell{Key: "k"}), leafPage, body), 1, 0})
	}
	for i, body := range []string{"", "\x00", "\x00\x00", "\x00\x01", "\xff\xff", full("a"), fork("", 2, "m", 0), fork("", 512, "m", 3), fork("", -1, "m", 3), fork("a", 2, "m", 3), fork("", 2, "", 3), fork("", 2, "m", 3, "f", 2), fork("", 2, strings.Repeat("m", 121), 3), fork("", 2, "m", 3) + "\x00"} {
		l = append(l, broken{fmt.Sprint("branch's body ", i), with(branchPage, body, leafPage, full("a"), leafPage, full("m")), 1, anyError})
		l = append(l, broken{fmt.Sprint("branch's body ", i, " below"), with(branchPage, fork("", 2, "k", 4), branchPage, body, leafPage, full("a"), leafPage, full("m")), 1, anyError})
	}
	return l
}

// rings are pages that lead to themselves, and pages that are there twice.
func rings() []broken {
	l := []broken{
		{"its own child", with(branchPage, fork("", 1, "m", 1)), 1, 4},
		{"its own only child", with(branchPage, fork("", 1)), 1, 4},
		{"its own first child", with(branchPage, fork("", 1, "m", 2), leafPage, full("m")), 1, 4},
		{"its own last child", with(branchPage, fork("", 2, "m", 1), leafPage, full("a")), 1, 4},
		{"a ring of two", with(branchPage, fork("", 2, "m", 3), branchPage, fork("", 1, "f", 4), leafPage, full("m"), leafPage, full("f")), 1, 4},
		{"a child twice", with(branchPage, fork("", 2, "m", 2), leafPage, full("a")), 1, 4},
		{"a child twice, thin", with(branchPage, fork("", 2, "m", 2), leafPage, leafBytes(api.Cell{Key: "a"}, api.Cell{Key: "k"})), 1, 4},
		{"a child of two", with(branchPage, fork("", 2, "m", 3), branchPage, fork("", 4, "f", 5), branchPage, fork("", 5, "n", 4), leafPage, full("a"), leafPage, full("f")), 1, 4},
		{"a leaf that is its own piece", with(leafPage, leafBytes(api.Cell{Key: "k", Over: 1, Size: 97})), 1, anyError},
		{"a piece of two values", with(leafPage, leafBytes(api.Cell{Key: "a", Over: 2, Size: 97}, api.Cell{Key: "k", Over: 2, Size: 97}), overPage, pieceBytes(0, text(1, 97))), 1, 4},
		{"a last piece of two values", with(leafPage, leafBytes(api.Cell{Key: "a", Over: 2, Size: 97}, api.Cell{Key: "k", Over: 3, Size: 484 + 97}), overPage, pieceBytes(0, text(1, 97)), overPage, pieceBytes(2, text(1, 484))), 1, 4},
		{"a piece of two leaves' values", with(branchPage, fork("", 2, "m", 3), leafPage, leafBytes(api.Cell{Key: "a", Over: 4, Size: 97}, api.Cell{Key: "b", Val: text(1, 96)}), leafPage, leafBytes(api.Cell{Key: "m", Over: 4, Size: 97}, api.Cell{Key: "n", Val: text(1, 96)}), overPage, pieceBytes(0, text(1, 97))), 1, 4},
	}
	for _, n := range []int{3, 10, 11, 12, 100, 511} {
		s := newStore()
		for i := range n {
			s.add(i+1, branchPage, fork("", (i+1)%n+1))
		}
		l = append(l, broken{fmt.Sprint("a ring of ", n), s, 1, 4})
	}
	return l
}

// depths are trees of one-celled branches, and such as have leaves of several depths.
func depths() []broken {
	var l []broken
	for depth := 2; depth <= 40; depth++ {
		must := 0
		if depth > 10 {
			must = 4
		}
		alone, left, right := newStore(), newStore(), newStore()
		for no := 1; no < depth; no++ {
			alone.add(no, branchPage, fork("", no+1))
			left.add(no, branchPage, fork("", no+1, "m", 100+no))
			left.add(100+no, leafPage, full("m"))
			right.add(no, branchPage, fork("", 100+no, string(rune('a'+no%26)), no+1))
			right.add(100+no, leafPage, full("a"))
		}
		alone.add(depth, leafPage, full("k"))
		left.add(depth, leafPage, full("k"))
		right.add(depth, leafPage, full("z"))
		l = append(l, broken{fmt.Sprint("one cell, deep ", depth), alone, 1, must})
		l = append(l, broken{fmt.Sprint("to the left, deep ", depth), left, 1, must})
		l = append(l, broken{fmt.Sprint("to the right, deep ", depth), right, 1, must})
	}
	thin := leafBytes(api.Cell{Key: "k", Val: "v"})
	l = append(l,
		broken{"a thin leaf alone", with(branchPage, fork("", 2), leafPage, thin), 1, 0},
		broken{"a thin branch alone", with(branchPage, fork("", 2), branchPage, fork("", 3, "m", 4), leafPage, thin, leafPage, leafBytes(api.Cell{Key: "m"})), 1, 0},
		broken{"a thin leaf beside a branch", with(branchPage, fork("", 2, "m", 3), leafPage, thin, branchPage, fork("", 4, "n", 5), leafPage, full("m"), leafPage, full("n")), 1, 0},
		broken{"a thin branch beside a leaf", with(branchPage, fork("", 3, "c", 2), leafPage, full("z"), branchPage, fork("", 4, "b", 5), leafPage, leafBytes(api.Cell{Key: "a"}), leafPage, leafBytes(api.Cell{Key: "b"})), 1, 0},
		broken{"empty leaves", with(branchPage, fork("", 2, "m", 3), leafPage, "\x00\x00", leafPage, "\x00\x00"), 1, 0},
		broken{"leaves the other way round", with(branchPage, fork("", 2, "c", 3), leafPage, leafBytes(api.Cell{Key: "m"}, api.Cell{Key: "n"}), leafPage, leafBytes(api.Cell{Key: "a"}, api.Cell{Key: "b"})), 1, 0},
		broken{"branches the other way round", with(branchPage, fork("", 2, "c", 3), branchPage, fork("", 4, "m", 5), branchPage, fork("", 6, "a", 7), leafPage, full("z"), leafPage, full("m"), leafPage, full("\x01"), leafPage, full("a")), 1, 0},
		broken{"keys out of what they stand for", with(branchPage, fork("", 2, "c", 3), leafPage, full("a", "f", "k"), leafPage, full("a", "b", "m", "z")), 1, 0},
	)
	return l
}

// longOnes are values whose pieces are amiss.
func longOnes() []broken {
	var l []broken
	add := func(name string, size int, reach int, pieces ...any) {
		cells := leafBytes(api.Cell{Key: "a", Val: "v"}, api.Cell{Key: "k", Over: 2, Size: size}, api.Cell{Key: "m", Val: text(1, 96)})
		l = append(l, broken{"a value whose " + name, with(append([]any{leafPage, cells}, pieces...)...), 1, reach})
		below := with(append([]any{leafPage, cells}, pieces...)...)
		below.add(200, branchPage, fork("", 201, "b", 1))
		below.add(201, leafPage, full("a"))
		l = append(l, broken{"below, a value whose " + name, below, 200, reach})
	}
	part := text(7, 484)
	add("page is lacking", 97, anyError)
	add("second page is lacking", 1000, anyError, overPage, pieceBytes(3, part))
	add("third page is lacking", 1000, anyError, overPage, pieceBytes(3, part), overPage, pieceBytes(4, part))
	add("page is a leaf", 97, anyError, leafPage, pieceBytes(0, part[:97]))
	add("page is of no kind", 97, anyError, 0, pieceBytes(0, part[:97]))
	add("page is a piece of free pages", 97, anyError, api.PageFree, pieceBytes(0, part[:97]))
	add("second page is a leaf", 500, anyError, overPage, pieceBytes(3, part), leafPage, pieceBytes(0, part[:16]))
	add("second page is its leaf", 500, anyError, overPage, pieceBytes(1, part))
	add("piece is too short", 97, 0, overPage, pieceBytes(0, part[:96]))
	add("piece is too long", 97, 0, overPage, pieceBytes(0, part[:98]))
	add("piece is much too long", 97, 0, overPage, pieceBytes(0, part+part))
	add("piece is empty", 97, 0, overPage, pieceBytes(0, ""))
	add("piece has no number", 97, 0, overPage, "\x00\x00\x00")
	add("piece has nothing", 97, 0, overPage, "")
	add("first piece isn't full", 500, 0, overPage, pieceBytes(3, part[:483]), overPage, pieceBytes(0, part[:17]))
	add("first piece is more than full", 500, 0, overPage, pieceBytes(3, part+"x"), overPage, pieceBytes(0, part[:15]))
	add("pieces are two, where one would do", 400, 0, overPage, pieceBytes(3, part[:200]), overPage, pieceBytes(0, part[:200]))
	add("last piece is empty", 484, 0, overPage, pieceBytes(3, part), overPage, pieceBytes(0, ""))
	add("pieces are too few", 968, 0, overPage, pieceBytes(0, part))
	add("pieces are too many", 484, 0, overPage, pieceBytes(3, part), overPage, pieceBytes(0, "x"))
	add("pieces go on", 4000, 0, overPage, pieceBytes(3, part), overPage, pieceBytes(4, part), overPage, pieceBytes(0, part))
	for _, size := range []int{97, 484, 485, 968, 1452, 3872, 4000} {
		add(fmt.Sprint("page is its own next one, ", size), size, 0, overPage, pieceBytes(2, part))
		add(fmt.Sprint("short page is its own next one, ", size), size, 0, overPage, pieceBytes(2, part[:97]))
		add(fmt.Sprint("pages lead in a ring, ", size), size, 0, overPage, pieceBytes(3, part), overPage, pieceBytes(2, part))
	}
	for _, next := range []int{-1, -2, 512, 513, 1 << 16, 1<<31 - 1, 1 << 31} {
		add(fmt.Sprint("next page has the number ", next), 1000, anyError, overPage, pieceBytes(next, part))
		add(fmt.Sprint("last page's next one is ", next), 484, 0, overPage, pieceBytes(next, part))
	}
	return l
}

// Of what isn't a well shaped tree each call ends.
func TestBroken(t *testing.T) {
	l := someAsks()
	for _, b := range slices.Concat(otherPages(), rings(), depths(), longOnes()) {
		ends(t, b, l)
	}
}

// A value of a well shaped tree isn't told, if its pieces aren't as said, but as an error: else it would be another value.
func TestBrokenValues(t *testing.T) {
	for _, b := range longOnes() {
		if val, ok, e := tree.Get(b.pages.(*store).fresh(), b.root, "k"); e == api.OK {
			t.Errorf("%s: Get: %d bytes, %v", b.name, len(val), ok)
		}
		if l, e := tree.Reach(b.pages.(*store).fresh(), b.root); e == api.OK {
			t.Errorf("%s: Reach: %v", b.name, l)
		}
	}
}

// A tree deeper than 10 is told as an error by each call that goes down to its leaf.
func TestTooDeep(t *testing.T) {
	for depth := 11; depth <= 20; depth++ {
		s := newStore()
		for no := 1; no < depth; no++ {
			s.add(no, branchPage, fork("", no+1))
		}
		s.add(depth, leafPage, full("k"))
		for _, a := range []ask{getting("k"), getting("z"), putting("k", "v"), putting("z", text(1, 1000)), deleting("k"), deleting("z"), reaching} {
			s.begin()
			if bare, e := a.call(s, 1); e != api.ErrForm || !bare || len(s.made)+len(s.gone) > 0 {
				t.Errorf("%d deep: %s: error %d, made %v, dropped %v", depth, a.name, e, s.made, s.gone)
			}
		}
	}
}

// Cells that no leaf may have: Value ends.
func TestValueOfOtherCells(t *testing.T) {
	s := with(overPage, pieceBytes(1, text(1, 484)), overPage, pieceBytes(2, text(1, 97)), overPage, pieceBytes(2, ""))
	var l []ask
	for _, over := range []int{0, 1, 2, 3, 4, 511, 512, -1, math.MaxInt, math.MinInt} {
		for _, size := range []int{0, 1, 96, 97, 484, 4000, 4001, 100000, 1 << 40, math.MaxInt, -1, -97, math.MinInt} {
			for _, c := range []api.Cell{{Key: "k"}, {}, {Key: "k", Val: "v"}, {Key: "k", Child: 1}, {Key: strings.Repeat("k", 121)}, {Key: "k", Val: text(1, 97)}} {
				c.Over, c.Size = over, size
				l = append(l, valuing(c))
				val, e := tree.Value(s.fresh(), c)
				if inline := c == (api.Cell{Key: c.Key, Val: c.Val}) && len(c.Val) <= maxInline; inline != (e == api.OK) || inline && val != c.Val {
					t.Errorf("Value(%.60v): %d bytes, error %d", c, len(val), e)
				}
			}
		}
	}
	ends(t, broken{"Value", s, 0, 0}, l)
}

// teller is Pages that tell pages of their own.
type teller struct {
	load func(no int) api.Page
	make func() int
	left int
}

func (p *teller) count() {
	p.left--
	if p.left < 0 {
		panic(tooMany)
	}
}

func (p *teller) Load(no int) (api.Page, api.Errno) {
	p.count()
	return p.load(no), api.OK
}

func (p *teller) Make(kind int, body string) (int, api.Errno) {
	p.count()
	return p.make(), api.OK
}

func (p *teller) Drop(no int) api.Errno {
	p.count()
	return api.OK
}

// tellers: Pages whose pages never end, change from call to call, or have numbers that can't be.
func tellers(r *rand.Rand) []broken {
	one := func() int { return 1 }
	odd := func() int {
		return []int{-1, 0, 1, 2, 511, 512, 1 << 32, math.MaxInt, math.MinInt}[r.Intn(9)]
	}
	next := func(no int) int { return 1 + (no%511+511)%511 }
	bodies := []api.Page{
		{Kind: leafPage, Body: full("a", "f", "k", "m")},
		{Kind: leafPage, Body: leafBytes(api.Cell{Key: "k"})},
		{Kind: leafPage, Body: leafBytes(api.Cell{Key: "k", Over: 1, Size: 97})},
		{Kind: leafPage, Body: leafBytes(api.Cell{Key: "a", Over: 9, Size: 4000}, api.Cell{Key: "k", Over: 8, Size: 485})},
		{Kind: branchPage, Body: fork("", 1)},
		{Kind: branchPage, Body: fork("", 2, "k", 3)},
		{Kind: branchPage, Body: fork("", 4, "c", 5, strings.Repeat("k", 120), 6, "l", 7, strings.Repeat("m", 100), 8)},
		{Kind: overPage, Body: pieceBytes(3, text(1, 484))},
		{Kind: overPage, Body: pieceBytes(0, text(1, 97))},
		{Kind: overPage, Body: pieceBytes(0, "x")},
		{},
	}
	branches := func(no int) api.Page {
		return api.Page{Kind: branchPage, No: no, Txn: 1, Body: fork("", next(no), "k", next(2*no))}
	}
	single := func(no int) api.Page {
		return api.Page{Kind: branchPage, No: no, Body: fork("", next(no))}
	}
	pieces := func(no int) api.Page {
		if no == 1 {
			return api.Page{Kind: leafPage, No: no, Body: leafBytes(api.Cell{Key: "k", Over: 2, Size: 4000})}
		}
		return api.Page{Kind: overPage, No: no, Body: pieceBytes(next(no), text(1, 484))}
	}
	leaf := func(no int) api.Page { return api.Page{Kind: leafPage, No: no, Body: full("a", "k", "m")} }
	fickle := func(no int) api.Page { return bodies[r.Intn(len(bodies))] }
	var l []broken
	for _, root := range []int{1, 2, 511} {
		l = append(l,
			broken{"branches without an end", &teller{branches, one, 3000}, root, 4},
			broken{"single branches without an end", &teller{single, odd, 3000}, root, 4},
			broken{"pieces without an end", &teller{pieces, odd, 3000}, root, anyError},
			broken{"leaves, odd numbers", &teller{leaf, odd, 3000}, root, 0},
		)
		for range 200 {
			l = append(l, broken{"fickle pages", &teller{fickle, odd, 3000}, root, 0})
		}
	}
	// These tell a page of any number.
	for _, root := range []int{-1, -2, -511, 512, 513, 1023, 1 << 32, 1<<32 + 1, math.MaxInt, math.MinInt} {
		for _, load := range []func(int) api.Page{branches, single, pieces, leaf} {
			l = append(l, broken{fmt.Sprint("pages of any number, root ", root), &teller{load, one, 3000}, root, anyError})
		}
	}
	return l
}

func TestTellers(t *testing.T) {
	l := someAsks()
	for _, b := range tellers(rand.New(rand.NewSource(3))) {
		for _, a := range l {
			b.pages.(*teller).left = 3000
			ends(t, b, []ask{a})
		}
	}
}

// Pages that make one with a number that no page has: it is told as an error, since nobody could name that page.
func TestOddNumbers(t *testing.T) {
	leaf := api.Page{Kind: leafPage, Body: full("a", "k")}
	for _, no := range []int{-1, 0, 512, 513, 1 << 32, 1<<32 + 1, math.MaxInt, math.MinInt} {
		for _, a := range []ask{putting("b", "v"), putting("k", text(1, 4000)), deleting("k")} {
			for _, root := range []int{0, 1} {
				p := &teller{load: func(int) api.Page { return leaf }, make: func() int { return no }, left: 100}
				bare, e := a.call(p, root)
				if gone := root == 0 && strings.HasPrefix(a.name, "Del"); !bare || gone != (e == api.OK) || !gone && e != api.ErrForm {
					t.Errorf("%s at %d, of pages that make the page %d: error %d", a.name, root, no, e)
				}
			}
		}
	}
}

// garble: a store of which some pages aren't what they were.
func garble(r *rand.Rand, s *store) {
	nos := slices.Sorted(maps.Keys(s.pages))
	for range 1 + r.Intn(3) {
		no := nos[r.Intn(len(nos))]
		other := nos[r.Intn(len(nos))]
		p := s.pages[no]
		b := []byte(p.Body)
		switch r.Intn(8) {
		case 0:
			p.Kind = r.Intn(6)
		case 1:
			p = s.pages[other]
		case 2:
			delete(s.pages, no)
			continue
		case 3:
			p.Body = p.Body[:r.Intn(len(b)+1)]
		case 4:
			p.Body += text(r.Int(), r.Intn(5))
		default:
			p.Body = garbleBody(r, p, no, other)
		}
		s.pages[no] = p
	}
}

// garbleBody: bytes in which a number, a key or any byte is another one.
func garbleBody(r *rand.Rand, p api.Page, no, other int) string {
	cells, amiss := cellsOf(p.Kind == leafPage, p.Body)
	if p.Kind == overPage || amiss != "" || len(cells) == 0 || r.Intn(3) == 0 {
		b := []byte(p.Body)
		if len(b) > 0 {
			b[r.Intn(len(b))] = []byte{0, 1, 255, byte(no), byte(other)}[r.Intn(5)]
		}
		return string(b)
	}
	c := &cells[r.Intn(len(cells))]
	switch {
	case r.Intn(4) == 0:
		c.Key = cells[r.Intn(len(cells))].Key + "x"
	case p.Kind == branchPage && r.Intn(4) == 0:
		cells = cells[:1+r.Intn(len(cells))]
	case p.Kind == branchPage:
		c.Child = other
	default:
		c.Over, c.Size, c.Val = other, []int{97, 485, 4000, 96, 4001}[r.Intn(5)], ""
	}
	if p.Kind == leafPage {
		return leafBytes(cells...)
	}
	return branchBytes(cells...)
}

// Trees of which some pages aren't what they were: each call ends.
func TestGarbled(t *testing.T) {
	t.Parallel()
	tried := 0
	for seed := range 1000 {
		r := rand.New(rand.NewSource(int64(seed)))
		p, ok := built(r, someKeys(r, kinds[seed%len(kinds)]))
		if !ok {
			continue
		}
		tried++
		garble(r, p.store)
		ends(t, broken{fmt.Sprint("seed ", seed), p.store, p.now.root, 0}, asks(sample(p), []string{"", text(seed, 96), text(seed, 600)}))
	}
	if tried < 450 {
		t.Error("tried", tried)
	}
}

// Whatever the bytes say: they are plays, or pages.
func FuzzPlay(f *testing.F) {
	f.Add([]byte("\x00\x01\x02\x03\x04\x05\x80\x81\x82"))
	f.Add([]byte(strings.Repeat("\x01\x11\x21\x31\x41\x51", 20)))
	f.Fuzz(func(t *testing.T, b []byte) {
		if len(b) < 2 || len(b) > 400 {
			return
		}
		k := kinds[int(b[0])%len(kinds)]
		r := rand.New(rand.NewSource(int64(b[1])))
		p := newPlay()
		for _, c := range b[2:] {
			i := int(c&127) % k.keys
			if c < 128 {
				must(t, "put", p.put(k.key(i), k.val(r, i)))
			} else {
				must(t, "del", p.del(k.key(i)))
			}
		}
	})
}

func FuzzPages(f *testing.F) {
	f.Add([]byte(full("a", "k")), uint8(1))
	f.Add([]byte(fork("", 1, "k", 2)), uint8(2))
	f.Add([]byte(leafBytes(api.Cell{Key: "k", Over: 2, Size: 97})+pieceBytes(0, text(1, 97))), uint8(1))
	f.Fuzz(func(t *testing.T, b []byte, kind uint8) {
		s := newStore()
		cut := min(len(b), int(kind)*4)
		s.add(1, int(kind%4), string(b))
		s.add(2, int(kind/4%4), string(b[:cut]))
		s.add(3, int(kind/16%4), string(b[cut:]))
		ends(t, broken{"fuzz", s, 1, 0}, someAsks())
	})
}
