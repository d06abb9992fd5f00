package tree_test

import (
	"fmt"
	"maps"
	"math/rand"
	"slices"
	"strings"
	"testing"

	"rollbook/api"
	"rollbook/tree"
)

// builder lays well shaped trees that no Put made: with nodes of any bytes that may be, and any keys in the branches that may be.
type builder struct {
	r     *rand.Rand
	store *store
	thin  int // of ten nodes so many have as few bytes as can be
	thick int // and so many as many
}

// unit is a cell of a node that is to be, and the bytes that it has there; of a branch's first one: bare.
type unit struct {
	cell api.Cell
	size int
	bare int
}

func leafUnit(c api.Cell) unit {
	n := 2 + 2 + len(c.Key) + 1
	if c.Over != 0 {
		n += 8
	} else {
		n += 2 + len(c.Val)
	}
	return unit{cell: c, size: n, bare: n}
}

func branchUnit(key string, child int) unit {
	return unit{cell: api.Cell{Key: key, Child: child}, size: 8 + len(key), bare: 8}
}

// groups: units cut at random into nodes that may be, as the places where they end; nothing if they can't be cut.
func (b *builder) groups(l []unit, fewest int) []int {
	may := func(from, to int) bool {
		n := 2 + l[from].bare - l[from].size
		for _, u := range l[from:to] {
			n += u.size
		}
		return n >= least && n <= room && to-from >= fewest
	}
	good := make([]bool, len(l)+1)
	good[len(l)] = true
	ends := make([][]int, len(l)+1)
	for from := len(l) - 1; from >= 0; from-- {
		for to := from + 1; to <= len(l) && to <= from+62; to++ {
			if good[to] && may(from, to) {
				ends[from] = append(ends[from], to)
			}
		}
		good[from] = len(ends[from]) > 0
	}
	if !good[0] {
		return nil
	}
	var cuts []int
	for at := 0; at < len(l); {
		next := ends[at]
		switch n := b.r.Intn(10); {
		case n < b.thin:
			at = next[0]
		case n < b.thin+b.thick:
			at = next[len(next)-1]
		default:
			at = next[b.r.Intn(len(next))]
		}
		cuts = append(cuts, at)
	}
	return cuts
}

// between: a key that is greater than one, and not greater than another one.
func (b *builder) between(low, high string) string {
	short := high
	for len(short) > 1 && short[:len(short)-1] > low {
		short = short[:len(short)-1]
	}
	longer := low + strings.Repeat("\x00", 1+b.r.Intn(maxKey))
	longest := short
	if last := len(short) - 1; short[last] > 0 {
		longest = short[:last] + string([]byte{short[last] - 1}) + strings.Repeat("\xff", maxKey-len(short))
	}
	for _, k := range []string{short, longer[:min(len(longer), maxKey)], longest, high} {
		if b.r.Intn(3) == 0 && k > low && k <= high {
			return k
		}
	}
	return high
}

// build: the root of a tree with these keys and values; 0, if by chance none came out.
func (b *builder) build(want map[string]string) int {
	keys := slices.Sorted(maps.Keys(want))
	var units []unit
	for _, k := range keys {
		c := api.Cell{Key: k, Val: want[k]}
		if len(want[k]) > maxInline {
			c = api.Cell{Key: k, Over: b.store.addLong(want[k]), Size: len(want[k])}
		}
		units = append(units, leafUnit(c))
	}
	leaf := true
	for level := 0; level < 8; level++ {
		if no := b.root(units, leaf); no != 0 {
			return no
		}
		fewest := 2
		if leaf {
			fewest = 1
		}
		cuts := b.groups(units, fewest)
		if len(cuts) < 2 {
			return 0
		}
		units = b.above(units, cuts, leaf)
		leaf = false
	}
	return 0
}

// root: the page of units that fit in one, mostly.
func (b *builder) root(l []unit, leaf bool) int {
	n := 2 + l[0].bare - l[0].size
	for _, u := range l {
		n += u.size
	}
	if n > room || !leaf && len(l) < 2 || n > 2*least && b.r.Intn(3) == 0 {
		return 0
	}
	return b.page(l, leaf)
}

func (b *builder) page(l []unit, leaf bool) int {
	var cells []api.Cell
	for _, u := range l {
		cells = append(cells, u.cell)
	}
	if leaf {
		return b.store.add(0, api.PageLeaf, leafBytes(cells...))
	}
	cells[0].Key = ""
	return b.store.add(0, api.PageBranch, branchBytes(cells...))
}

// above: the units of the pages of a level. A branch's units keep the key from which they are, so that the one that is first among them gives it to the level above.
func (b *builder) above(l []unit, cuts []int, leaf bool) []unit {
	var up []unit
	from := 0
	for _, to := range cuts {
		key := l[from].cell.Key
		if leaf && from > 0 {
			key = b.between(l[from-1].cell.Key, key)
		}
		if from == 0 {
			key = ""
		}
		up = append(up, branchUnit(key, b.page(l[from:to], leaf)))
		from = to
	}
	return up
}

// built: a play that begins with a tree that no Put made; false, if by chance none came out.
func built(r *rand.Rand, want map[string]string) (*play, bool) {
	p := newPlay()
	b := &builder{r: r, store: p.store, thin: r.Intn(10)}
	b.thick = r.Intn(11 - b.thin)
	root := b.build(want)
	if root == 0 {
		return nil, false
	}
	p.now = version{root: root, look: lookAt(p.store, root), want: want}
	p.store.keep(p.now.look)
	return p, true
}

// someKeys: keys and values of a kind.
func someKeys(r *rand.Rand, k kind) map[string]string {
	want := map[string]string{}
	n := 1 + r.Intn(k.keys)
	for _, i := range r.Perm(k.keys)[:n] {
		want[k.key(i)] = k.val(r, i)
	}
	return want
}

// Trees of any well shaped kind, those that no Put makes among them: each call makes well shaped ones of them.
func TestBuiltTrees(t *testing.T) {
	t.Parallel()
	deep, trees := map[int]int{}, 0
	for seed := range 900 {
		r := rand.New(rand.NewSource(int64(seed)))
		k := kinds[seed%len(kinds)]
		p, ok := built(r, someKeys(r, k))
		if !ok {
			continue
		}
		trees++
		deep[p.now.look.depth]++
		if f := builtPlay(r, p, k); f != "" {
			t.Fatalf("%s, seed %d: %s", k.name, seed, f)
		}
	}
	if trees < 450 || deep[2] < 100 || deep[3] < 100 || deep[4] < 10 {
		t.Errorf("%d trees, by their depth %v", trees, deep)
	}
}

func builtPlay(r *rand.Rand, p *play, k kind) string {
	if len(p.now.look.amiss) > 0 {
		return fmt.Sprint("the test's own tree: ", p.now.look.amiss)
	}
	if f := reads(p.store, p.now); f != "" {
		return f
	}
	for c := range 4 {
		i := r.Intn(k.keys)
		f := ""
		switch keys := p.now.look.keys; {
		case r.Intn(2) == 0:
			f = p.put(k.key(i), k.val(r, i+c))
		case len(keys) > 0:
			f = p.del(keys[r.Intn(len(keys))])
		}
		if f != "" {
			return fmt.Sprintf("call %d: %s", c, f)
		}
	}
	return ""
}

// twofold: a tree of branches with two cells each and leaves with one key each, so deep.
func twofold(depth int) *play {
	p := newPlay()
	n := 1 << (depth - 1)
	p.now.want = map[string]string{}
	var level []api.Cell
	for i := range n {
		key := padded(i, maxKey)
		p.now.want[key] = text(i, maxInline)
		level = append(level, api.Cell{Key: key, Child: p.store.add(0, api.PageLeaf, leafBytes(api.Cell{Key: key, Val: text(i, maxInline)}))})
	}
	for len(level) > 1 {
		var up []api.Cell
		for i := 0; i < len(level); i += 2 {
			no := p.store.add(0, api.PageBranch, branchBytes(api.Cell{Child: level[i].Child}, level[i+1]))
			up = append(up, api.Cell{Key: level[i].Key, Child: no})
		}
		level = up
	}
	p.now.root = level[0].Child
	p.now.look = lookAt(p.store, p.now.root)
	return p
}

// The deepest tree that may be has all the pages that there are: it is nine deep, is read, and can't be changed.
func TestDeepestTree(t *testing.T) {
	p := twofold(9)
	if len(p.now.look.amiss) > 0 || p.now.look.depth != 9 || len(p.store.pages) != lastPage {
		t.Fatal("the test's own tree:", p.now.look.amiss, p.now.look.depth, len(p.store.pages))
	}
	for range 9 {
		if f := reads(p.store, p.now); f != "" {
			t.Fatal(f)
		}
	}
	p.store.begin()
	if no, e := tree.Put(p.store, p.now.root, "a", "b"); no != 0 || e != api.ErrFull {
		t.Errorf("Put: %d, error %d", no, e)
	}
	if f := p.now.look.same(lookAt(p.store, p.now.root)); f != "" || len(p.store.wrong) > 0 {
		t.Error(f, p.store.wrong)
	}
	p.store.begin()
	if no, ok, e := tree.Del(p.store, p.now.root, padded(77, maxKey)); no != 0 || ok || e != api.ErrFull {
		t.Errorf("Del: %d, %v, error %d", no, ok, e)
	}
	if f := p.now.look.same(lookAt(p.store, p.now.root)); f != "" || len(p.store.wrong) > 0 {
		t.Error(f, p.store.wrong)
	}
}

// Of a tree of the thinnest branches each deletion puts nodes together at each height, up to the root, that is left with one child.
func TestThinBranches(t *testing.T) {
	for depth := 2; depth <= 8; depth++ {
		n := 1 << (depth - 1)
		for _, i := range []int{0, 1, n/2 - 1, n / 2, n - 2, n - 1} {
			p := twofold(depth)
			if f := p.del(padded(max(i, 0), maxKey)); f != "" {
				t.Fatalf("%d deep, key %d: %s", depth, i, f)
			}
			if p.now.look.depth != max(depth-1, 1) {
				t.Errorf("%d deep, key %d: %d deep then", depth, i, p.now.look.depth)
			}
		}
	}
	for _, down := range orders {
		p := twofold(7)
		for _, i := range inOrder(down, 64) {
			if f := p.del(padded(i, maxKey)); f != "" {
				t.Fatalf("deleted %s: key %d: %s", down, i, f)
			}
		}
		if p.now.root != 0 || len(p.store.pages) != 0 {
			t.Errorf("deleted %s: root %d, %d pages", down, p.now.root, len(p.store.pages))
		}
	}
}
