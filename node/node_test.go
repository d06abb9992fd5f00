package node_test

import (
	"encoding/binary"
	"fmt"
	"math"
	"math/rand"
	"slices"
	"sort"
	"strings"
	"testing"

	"rollbook/api"
	"rollbook/node"
)

func text(s string) string {
	return two(len(s)) + s
}

func two(n int) string {
	return string(binary.BigEndian.AppendUint16(nil, uint16(n)))
}

func four(n int) string {
	return string(binary.BigEndian.AppendUint32(nil, uint32(n)))
}

func long(c string, n int) string {
	return strings.Repeat(c, n)
}

func val(key, v string) api.Cell {
	return api.Cell{Key: key, Val: v}
}

func over(key string, page, size int) api.Cell {
	return api.Cell{Key: key, Over: page, Size: size}
}

func child(key string, page int) api.Cell {
	return api.Cell{Key: key, Child: page}
}

// kind names a node's kind in what a test tells.
func kind(leaf bool) string {
	if leaf {
		return "leaf"
	}
	return "branch"
}

// brief is a text that may be long.
func brief(s string) string {
	if len(s) > 200 {
		return fmt.Sprintf("%q .. (%d bytes)", s[:200], len(s))
	}
	return fmt.Sprintf("%q", s)
}

// tell is a list of cells in short.
func tell(l []api.Cell) string {
	var s []string
	for _, c := range l[:min(len(l), 12)] {
		s = append(s, tellCell(c))
	}
	return fmt.Sprintf("%d cells: %s", len(l), strings.Join(s, ", "))
}

func tellCell(c api.Cell) string {
	return fmt.Sprintf("{%.40q (%d) %.40q (%d) %d %d %d}", c.Key, len(c.Key), c.Val, len(c.Val), c.Over, c.Size, c.Child)
}

// cellText lays a cell as the chapter tells it, whether it may be or not.
func cellText(leaf bool, c api.Cell) string {
	if !leaf {
		return text(c.Key) + four(c.Child)
	}
	if c.Over > 0 {
		return text(c.Key) + "\x01" + four(c.Over) + four(c.Size)
	}
	return text(c.Key) + "\x00" + text(c.Val)
}

// joined lays cells' bytes with slots that point at them in order.
func joined(cells ...string) string {
	at := 2 + 2*len(cells)
	head := two(len(cells))
	for _, c := range cells {
		head += two(at)
		at += len(c)
	}
	return head + strings.Join(cells, "")
}

// nodeText lays a node as the chapter tells it, whether it may be or not.
func nodeText(leaf bool, l []api.Cell) string {
	var cells []string
	for _, c := range l {
		cells = append(cells, cellText(leaf, c))
	}
	return joined(cells...)
}

// mayBe asks of cells what the chapter's words ask, one by one.
func mayBe(leaf bool, l []api.Cell) bool {
	for i, c := range l {
		for _, d := range l[:i] {
			if d.Key >= c.Key {
				return false
			}
		}
		inline := len(c.Val) <= 96 && c.Over == 0 && c.Size == 0
		outside := len(c.Val) == 0 && c.Over >= 1 && c.Over <= 511 && c.Size >= 97 && c.Size <= 4000
		asLeaf := len(c.Key) >= 1 && len(c.Key) <= 120 && c.Child == 0 && (inline || outside)
		asBranch := len(c.Key) <= 120 && c.Child >= 1 && c.Child <= 511 && c.Val == "" && c.Over == 0 && c.Size == 0
		if leaf && !asLeaf || !leaf && (!asBranch || (c.Key == "") != (i == 0)) {
			return false
		}
	}
	return leaf || len(l) > 0
}

// taker cuts pieces off bytes; where there are too few it tells so, and noughts.
type taker struct {
	rest  string
	short bool
}

func (k *taker) text(n int) string {
	if n > len(k.rest) {
		k.rest, k.short = "", true
		return long("\x00", n)
	}
	s := k.rest[:n]
	k.rest = k.rest[n:]
	return s
}

func (k *taker) number(n int) int {
	all := 0
	for _, b := range []byte(k.text(n)) {
		all = all*256 + int(b)
	}
	return all
}

// cellAt reads the bytes from a place on as a cell's, if there are so many.
func cellAt(leaf bool, s string, at int) (api.Cell, bool) {
	k := taker{rest: s}
	k.text(at)
	c := api.Cell{Key: k.text(k.number(2))}
	switch {
	case !leaf:
		c.Child = k.number(4)
	case k.number(1) == 1:
		c.Over, c.Size = k.number(4), k.number(4)
	default:
		c.Val = k.text(k.number(2))
	}
	return c, !k.short
}

// cellsOf reads what the slots point at, and holds what that would be laid as against the bytes.
func cellsOf(leaf bool, s string) ([]api.Cell, bool) {
	if len(s) < 2 || len(s) > 488 {
		return nil, false
	}
	slots := taker{rest: s}
	var l []api.Cell
	for range slots.number(2) {
		c, ok := cellAt(leaf, s, slots.number(2))
		if !ok || slots.short {
			return nil, false
		}
		l = append(l, c)
	}
	if !mayBe(leaf, l) || nodeText(leaf, l) != s {
		return nil, false
	}
	return l, true
}

// placeOf goes through a node's cells one by one.
func placeOf(leaf bool, l []api.Cell, key string) (int, api.Cell, bool) {
	place := 0
	for _, c := range l {
		if c.Key < key || !leaf && c.Key == key {
			place++
		}
	}
	if !leaf {
		place--
	}
	if place == len(l) {
		return place, api.Cell{}, false
	}
	return place, l[place], l[place].Key == key
}

// partSize counts a part's bytes.
func partSize(leaf bool, l []api.Cell) int {
	n := 2
	for _, c := range l {
		switch {
		case !leaf:
			n += 2 + 2 + len(c.Key) + 4
		case c.Over > 0:
			n += 2 + 2 + len(c.Key) + 1 + 4 + 4
		default:
			n += 2 + 2 + len(c.Key) + 1 + 2 + len(c.Val)
		}
	}
	return n
}

// cutOf tries each place.
func cutOf(leaf bool, l []api.Cell) int {
	if len(l) < 2 {
		return 0
	}
	best := 1
	for i := 1; i < len(l); i++ {
		if max(partSize(leaf, l[:i]), partSize(leaf, l[i:])) < max(partSize(leaf, l[:best]), partSize(leaf, l[best:])) {
			best = i
		}
	}
	return best
}

// checkCells holds Right, Bytes and Encode of cells, and Decode of their bytes, against the oracle.
func checkCells(t *testing.T, leaf bool, l []api.Cell) {
	t.Helper()
	kept := slices.Clone(l)
	right := mayBe(leaf, l)
	if node.Right(leaf, l) != right {
		t.Errorf("Right of a %s of %s: not %v", kind(leaf), tell(l), right)
	}
	size, want, e := 0, "", api.ErrForm
	if right {
		size, e = partSize(leaf, l), api.ErrLong
		if size <= 488 {
			want, e = nodeText(leaf, l), api.OK
		}
	}
	if n := node.Bytes(leaf, l); n != size {
		t.Errorf("Bytes of a %s of %s: %d, want %d", kind(leaf), tell(l), n, size)
	}
	if s, f := node.Encode(leaf, l); s != want || f != e {
		t.Errorf("Encode of a %s of %s: %s %d, want %s %d", kind(leaf), tell(l), brief(s), f, brief(want), e)
	}
	if len(l) < 100 {
		checkBytes(t, leaf, nodeText(leaf, l))
	}
	if !slices.Equal(l, kept) {
		t.Errorf("a %s's cells were changed: %s, had been %s", kind(leaf), tell(l), tell(kept))
	}
}

// checkBytes holds Decode of bytes against the oracle.
func checkBytes(t *testing.T, leaf bool, s string) {
	t.Helper()
	want, ok := cellsOf(leaf, s)
	l, e := node.Decode(leaf, s)
	switch {
	case ok && (e != api.OK || !slices.Equal(l, want)):
		t.Errorf("Decode of a %s's %s: %s %d, want %s", kind(leaf), brief(s), tell(l), e, tell(want))
	case !ok && (e != api.ErrForm || len(l) != 0):
		t.Errorf("Decode of %s, which is no %s's: %s %d", brief(s), kind(leaf), tell(l), e)
	}
	if !ok {
		checkSeek(t, leaf, s, "", 0, api.Cell{}, false)
		checkSeek(t, leaf, s, "m", 0, api.Cell{}, false)
	}
}

func checkSeek(t *testing.T, leaf bool, s, key string, place int, cell api.Cell, same bool) {
	t.Helper()
	i, c, ok := node.Seek(leaf, s, key)
	if i != place || c != cell || ok != same {
		t.Errorf("Seek of %s in a %s of %s: %d %s %v, want %d %s %v", brief(key), kind(leaf), brief(s), i, tellCell(c), ok, place, tellCell(cell), same)
	}
}

// checkHalve holds Halve against the oracle.
func checkHalve(t *testing.T, leaf bool, l []api.Cell) {
	t.Helper()
	kept := slices.Clone(l)
	if i, want := node.Halve(leaf, l), cutOf(leaf, l); i != want {
		t.Errorf("Halve of a %s of %s: %d, want %d", kind(leaf), tell(l), i, want)
	}
	if !slices.Equal(l, kept) {
		t.Errorf("a %s's cells were changed: %s, had been %s", kind(leaf), tell(l), tell(kept))
	}
}

// sampleLeaf has cells of both kinds, with bytes that a slip would lose or find.
func sampleLeaf() []api.Cell {
	return []api.Cell{
		val("\x00", ""), val("\x00\x00", "\x00"), over("\x00\x01", 1, 97), val("a", "1"), over("aa", 511, 4000),
		val("ab", "\x00\x01\x00\x02"), over("b", 0x102, 0x304), val("b\xff", long("\xff", 96)), val("\xc3\x28", "\u00e4\u4e16"), over("\xff", 256, 256),
	}
}

func sampleBranch() []api.Cell {
	return []api.Cell{
		child("", 3), child("\x00", 1), child("\x00\x00", 511), child("a", 0x102), child("aa", 256), child("b", 255), child("b\xff", 3), child("\xff", 2),
	}
}

func sample(leaf bool) []api.Cell {
	if leaf {
		return sampleLeaf()
	}
	return sampleBranch()
}

func TestExample(t *testing.T) {
	l := []api.Cell{val("a", "1")}
	want := "\x00\x01\x00\x04\x00\x01\x61\x00\x00\x01\x31"
	if s, e := node.Encode(true, l); s != want || e != api.OK {
		t.Errorf("Encode: % x %d, want % x", s, e, want)
	}
	if m, e := node.Decode(true, want); len(m) != 1 || m[0] != l[0] || e != api.OK {
		t.Errorf("Decode: %s %d", tell(m), e)
	}
	if n := node.Bytes(true, l); n != 11 {
		t.Errorf("Bytes: %d, want 11", n)
	}
	checkSeek(t, true, want, "a", 0, l[0], true)
}

// TestLaid has bytes that are written out by hand.
func TestLaid(t *testing.T) {
	for _, x := range []struct {
		leaf bool
		l    []api.Cell
		want string
	}{
		{true, nil, "\x00\x00"},
		{true, []api.Cell{val("a", "")}, "\x00\x01\x00\x04\x00\x01a\x00\x00\x00"},
		{true, []api.Cell{over("a", 0x1ab, 0xf9f)}, "\x00\x01\x00\x04\x00\x01a\x01\x00\x00\x01\xab\x00\x00\x0f\x9f"},
		{true, []api.Cell{over("a", 7, 97), val("bb", "xyz")}, "\x00\x02\x00\x06\x00\x12\x00\x01a\x01\x00\x00\x00\x07\x00\x00\x00\x61\x00\x02bb\x00\x00\x03xyz"},
		{false, []api.Cell{child("", 3)}, "\x00\x01\x00\x04\x00\x00\x00\x00\x00\x03"},
		{false, []api.Cell{child("", 3), child("m", 0x1fe)}, "\x00\x02\x00\x06\x00\x0c\x00\x00\x00\x00\x00\x03\x00\x01m\x00\x00\x01\xfe"},
	} {
		if s, e := node.Encode(x.leaf, x.l); s != x.want || e != api.OK {
			t.Errorf("Encode of a %s of %s: %q %d, want %q", kind(x.leaf), tell(x.l), s, e, x.want)
		}
		if l, e := node.Decode(x.leaf, x.want); !slices.Equal(l, x.l) || e != api.OK {
			t.Errorf("Decode of a %s's %q: %s %d, want %s", kind(x.leaf), x.want, tell(l), e, tell(x.l))
		}
		if n := node.Bytes(x.leaf, x.l); n != len(x.want) {
			t.Errorf("Bytes of a %s of %s: %d, want %d", kind(x.leaf), tell(x.l), n, len(x.want))
		}
	}
}

// oddNumbers are those at the bounds, those that a cut to fewer bytes would let through, and the greatest.
func oddNumbers() []int {
	return []int{
		0, 1, 2, 96, 97, 98, 255, 256, 510, 511, 512, 513, 3999, 4000, 4001, 65535, 65536, 65537,
		1 << 32, 1<<32 + 1, 1<<32 + 97, math.MaxInt, -1, -97, -511, math.MinInt,
	}
}

// oddCells are of all kinds, most of which may not be.
func oddCells() []api.Cell {
	all := []api.Cell{{}}
	for _, key := range []string{"", "k", "kk", long("k", 119), long("k", 120), long("k", 121), long("k", 256+1), long("k", 65535), long("k", 65536+1)} {
		for _, n := range []int{0, 1, 95, 96, 97, 256, 65535, 65536, 65537} {
			all = append(all, val(key, long("v", n)))
		}
		for _, n := range oddNumbers() {
			all = append(all, over(key, 7, n), over(key, n, 97), over(key, n, 4000), over(key, n, n), child(key, n))
		}
	}
	for _, n := range oddNumbers() {
		all = append(all, api.Cell{Key: "k", Val: "v", Over: n}, api.Cell{Key: "k", Val: "v", Size: n}, api.Cell{Key: "k", Val: "v", Over: 7, Size: n})
		all = append(all, api.Cell{Key: "k", Val: "v", Child: n}, api.Cell{Key: "k", Over: 7, Size: 97, Child: n})
		all = append(all, api.Cell{Key: "k", Over: n, Child: 7}, api.Cell{Key: "k", Size: n, Child: 7})
		all = append(all, api.Cell{Over: n, Child: 7}, api.Cell{Size: n, Child: 7})
	}
	return append(all, api.Cell{Child: 7, Val: "v"}, api.Cell{Key: "k", Child: 7, Val: "v"}, api.Cell{Key: "k", Val: "v", Over: 7, Size: 97, Child: 7})
}

// TestRightCells: each odd cell alone, and ahead of, behind and between others.
func TestRightCells(t *testing.T) {
	for _, c := range oddCells() {
		for _, leaf := range []bool{true, false} {
			checkCells(t, leaf, []api.Cell{c})
		}
		for _, l := range [][]api.Cell{{c, val("z", "1")}, {val("a", "1"), c}, {val("a", "1"), c, val("z", "1")}} {
			checkCells(t, true, l)
		}
		for _, l := range [][]api.Cell{{c, child("z", 1)}, {child("", 1), c}, {child("", 1), c, child("z", 1)}} {
			checkCells(t, false, l)
		}
	}
}

// TestRightEdges has answers that are written out by hand.
func TestRightEdges(t *testing.T) {
	for _, x := range []struct {
		leaf bool
		want bool
		l    []api.Cell
	}{
		{true, true, nil}, {true, true, []api.Cell{}}, {false, false, nil}, {false, false, []api.Cell{}},
		{true, false, []api.Cell{val("", "v")}}, {true, true, []api.Cell{val("k", "v")}},
		{true, true, []api.Cell{val(long("k", 120), "v")}}, {true, false, []api.Cell{val(long("k", 121), "v")}},
		{true, true, []api.Cell{val("k", "")}}, {true, true, []api.Cell{val("k", long("v", 96))}}, {true, false, []api.Cell{val("k", long("v", 97))}},
		{true, false, []api.Cell{over("k", 0, 97)}}, {true, true, []api.Cell{over("k", 1, 97)}}, {true, true, []api.Cell{over("k", 511, 97)}}, {true, false, []api.Cell{over("k", 512, 97)}},
		{true, false, []api.Cell{over("k", 1, 0)}}, {true, false, []api.Cell{over("k", 1, 96)}}, {true, true, []api.Cell{over("k", 1, 4000)}}, {true, false, []api.Cell{over("k", 1, 4001)}},
		{true, false, []api.Cell{{Key: "k", Val: "v", Over: 1, Size: 97}}}, {true, false, []api.Cell{{Key: "k", Val: "v", Over: 1}}}, {true, false, []api.Cell{{Key: "k", Val: "v", Size: 97}}},
		{true, false, []api.Cell{{Key: "k", Val: "v", Child: 1}}}, {true, false, []api.Cell{{Key: "k", Over: 1, Size: 97, Child: 1}}},
		{false, false, []api.Cell{child("", 0)}}, {false, true, []api.Cell{child("", 1)}}, {false, true, []api.Cell{child("", 511)}}, {false, false, []api.Cell{child("", 512)}},
		{false, false, []api.Cell{{Child: 1, Val: "v"}}}, {false, false, []api.Cell{{Child: 1, Over: 1}}}, {false, false, []api.Cell{{Child: 1, Size: 97}}},
		{false, true, []api.Cell{child("", 1), child(long("k", 120), 2)}}, {false, false, []api.Cell{child("", 1), child(long("k", 121), 2)}},
		{false, false, []api.Cell{child("a", 1)}}, {false, false, []api.Cell{child("a", 1), child("b", 2)}}, {false, false, []api.Cell{child("", 1), child("", 2)}}, {false, false, []api.Cell{child("", 1), child("a", 2), child("", 3)}},
		{false, true, []api.Cell{child("", 1), child("a", 1)}},
	} {
		if node.Right(x.leaf, x.l) != x.want {
			t.Errorf("Right of a %s of %s: not %v", kind(x.leaf), tell(x.l), x.want)
		}
		checkCells(t, x.leaf, x.l)
	}
}

// keyPairs: the first one less, the same, or greater.
func keyPairs() [][2]string {
	return [][2]string{
		{"a", "b"}, {"a", "a"}, {"b", "a"}, {"a", "aa"}, {"aa", "a"}, {"a", "a\x00"}, {"a\x00", "a"}, {"ab", "b"}, {"b", "ab"},
		{"\x7f", "\x80"}, {"\x80", "\x7f"}, {"\xff", "\xff\x00"}, {"\x00", "\x00\x00"}, {"\x00\x00", "\x00"}, {"\xff", "\x00"}, {"A", "a"}, {"a", "A"},
		{"\xef\xbf\xbf", "\xf0\x90\x80\x80"}, {"\xf0\x90\x80\x80", "\xef\xbf\xbf"}, {"10", "9"}, {"9", "10"}, {long("a", 120), long("a", 119)}, {long("a", 119), long("a", 120)}, {long("a", 120), long("a", 120)},
	}
}

func TestKeysRise(t *testing.T) {
	for _, p := range keyPairs() {
		if got := node.Right(true, []api.Cell{val(p[0], "1"), val(p[1], "2")}); got != (p[0] < p[1]) {
			t.Errorf("Right of a leaf of %q and %q: %v", p[0], p[1], got)
		}
		if got := node.Right(false, []api.Cell{child("", 1), child(p[0], 2), child(p[1], 3)}); got != (p[0] < p[1]) {
			t.Errorf("Right of a branch of %q and %q: %v", p[0], p[1], got)
		}
		checkCells(t, true, []api.Cell{val(p[0], "1"), val(p[1], "2")})
		checkCells(t, true, []api.Cell{val("\x00", "0"), val("\x00\x00\x00", "0"), val(p[0], "1"), over(p[1], 2, 97)})
		checkCells(t, false, []api.Cell{child(p[0], 2), child(p[1], 3)})
		checkCells(t, false, []api.Cell{child("", 1), child(p[0], 2), child(p[1], 3)})
	}
}

// filled: cells that may be, of just so many bytes.
func filled(leaf bool, size int) []api.Cell {
	if leaf {
		l := []api.Cell{over("a", 5, 100), val(long("b", 100), long("v", 95)), val(long("c", 100), long("v", 95))}
		return append(l, val("d", long("v", size-partSize(true, l)-8)))
	}
	l := []api.Cell{child("", 9), child(long("b", 120), 8), child(long("c", 120), 7), child(long("d", 100), 6)}
	return append(l, child("e"+long("e", size-partSize(false, l)-9), 5))
}

func TestNodesOfPageRoom(t *testing.T) {
	for _, leaf := range []bool{true, false} {
		for size := 486; size <= 490; size++ {
			l := filled(leaf, size)
			if !node.Right(leaf, l) || node.Bytes(leaf, l) != size {
				t.Fatalf("a %s of %d bytes isn't one: %v %d", kind(leaf), size, node.Right(leaf, l), node.Bytes(leaf, l))
			}
			checkCells(t, leaf, l)
			s, e := node.Encode(leaf, l)
			if size <= 488 && (len(s) != size || e != api.OK) || size > 488 && (s != "" || e != api.ErrLong) {
				t.Errorf("Encode of a %s of %d bytes: %d bytes, %d", kind(leaf), size, len(s), e)
			}
			m, e := node.Decode(leaf, nodeText(leaf, l))
			if size <= 488 && (!slices.Equal(m, l) || e != api.OK) || size > 488 && (len(m) != 0 || e != api.ErrForm) {
				t.Errorf("Decode of a %s of %d bytes: %s %d", kind(leaf), size, tell(m), e)
			}
			if size > 488 {
				checkSeek(t, leaf, nodeText(leaf, l), l[1].Key, 0, api.Cell{}, false)
			}
		}
	}
}

// many: as many least cells as are asked for, with keys of size bytes.
func many(leaf bool, count, size int) []api.Cell {
	var l []api.Cell
	if !leaf {
		l = append(l, child("", 1))
	}
	for i := len(l); i < count; i++ {
		key := fmt.Sprintf("%0*d", size, i)
		if leaf {
			l = append(l, val(key, ""))
		} else {
			l = append(l, child(key, 1+i%511))
		}
	}
	return l
}

// TestManyCells: as many as a page has, one more, and more than their number's two bytes tell.
func TestManyCells(t *testing.T) {
	for _, leaf := range []bool{true, false} {
		for _, count := range []int{53, 54, 55, 60, 61} {
			l := many(leaf, count, 2)
			checkCells(t, leaf, l)
			checkHalve(t, leaf, l)
		}
		for _, count := range []int{255, 256, 257, 65535, 65536, 65537, 65538, 70000} {
			l := many(leaf, count, 5)
			if !node.Right(leaf, l) {
				t.Errorf("Right of a %s of %d cells: false", kind(leaf), count)
			}
			if n := node.Bytes(leaf, l); n != partSize(leaf, l) {
				t.Errorf("Bytes of a %s of %d cells: %d, want %d", kind(leaf), count, n, partSize(leaf, l))
			}
			if s, e := node.Encode(leaf, l); s != "" || e != api.ErrLong {
				t.Errorf("Encode of a %s of %d cells: %d bytes, %d", kind(leaf), count, len(s), e)
			}
		}
	}
	ones := make([]api.Cell, 60)
	for i := range ones {
		ones[i] = val(string(rune('0'+i)), "")
	}
	if s, e := node.Encode(true, ones); len(s) != 482 || e != api.OK {
		t.Errorf("Encode of 60 least cells: %d bytes, %d", len(s), e)
	}
	checkCells(t, true, ones)
}

// TestBytesChanged: each beginning, bytes behind, and each byte changed in all ways.
func TestBytesChanged(t *testing.T) {
	for _, leaf := range []bool{true, false} {
		for _, l := range [][]api.Cell{sample(leaf), sample(leaf)[:1], sample(leaf)[:3], filled(leaf, 487), filled(leaf, 488)} {
			s := nodeText(leaf, l)
			checkBytes(t, leaf, s)
			for n := range len(s) {
				if m, e := node.Decode(leaf, s[:n]); len(m) != 0 || e != api.ErrForm {
					t.Errorf("Decode of the first %d bytes of a %s's %s: %s %d", n, kind(leaf), brief(s), tell(m), e)
				}
				checkBytes(t, leaf, s[:n])
			}
			for _, more := range []string{"\x00", "\x01", "a", "\xff", "\x00\x00", "\x00\x00\x00\x00\x00\x00", s} {
				if m, e := node.Decode(leaf, s+more); len(m) != 0 || e != api.ErrForm {
					t.Errorf("Decode of a %s's %s with %s behind: %s %d", kind(leaf), brief(s), brief(more), tell(m), e)
				}
				checkBytes(t, leaf, s+more)
			}
			changeEach(t, leaf, s)
		}
		for _, s := range []string{"", "\x00", "\x00\x00", "\x00\x00\x00", "\x00\x01", "\x01\x00", "\xff\xff", "\x00\x01\x00\x04", long("\x00", 488), long("\xff", 488), long("\x00", 489), long("\x00\x01", 70000)} {
			checkBytes(t, leaf, s)
		}
	}
	if l, e := node.Decode(true, "\x00\x00"); len(l) != 0 || e != api.OK {
		t.Errorf("Decode of a leaf without cells: %s %d", tell(l), e)
	}
	if l, e := node.Decode(false, "\x00\x00"); len(l) != 0 || e != api.ErrForm {
		t.Errorf("Decode of a branch without cells: %s %d", tell(l), e)
	}
}

func changeEach(t *testing.T, leaf bool, s string) {
	t.Helper()
	for i := range len(s) {
		for turn := 1; turn < 256; turn++ {
			b := []byte(s)
			b[i] ^= byte(turn)
			checkBytes(t, leaf, string(b))
			if t.Failed() {
				t.Fatalf("byte %d of a %s's %s turned by %d", i, kind(leaf), brief(s), turn)
			}
		}
	}
}

// TestSlots: slots that point elsewhere than at their cells in order.
func TestSlots(t *testing.T) {
	for _, leaf := range []bool{true, false} {
		l := sample(leaf)[:4]
		s := nodeText(leaf, l)
		wrong := map[string]string{
			"two slots changed":      s[:4] + s[6:8] + s[4:6] + s[8:],
			"two slots alike":        s[:4] + s[2:4] + s[6:],
			"the last one twice":     s[:6] + s[8:10] + s[8:],
			"a slot at the count":    s[:2] + two(0) + s[4:],
			"a slot at the slots":    s[:2] + two(2) + s[4:],
			"a slot within a cell":   s[:8] + two(len(s)-4) + s[10:],
			"a slot at the end":      s[:8] + two(len(s)) + s[10:],
			"a slot far behind":      s[:8] + two(65535) + s[10:],
			"a slot one less":        s[:8] + two(int(s[8])<<8+int(s[9])-1) + s[10:],
			"a slot one more":        s[:8] + two(int(s[8])<<8+int(s[9])+1) + s[10:],
			"a gap behind the slots": two(1) + two(5) + "\x00" + cellText(leaf, l[0]),
			"a gap between cells":    two(2) + two(6) + two(7+len(cellText(leaf, l[0]))) + cellText(leaf, l[0]) + "\x00" + cellText(leaf, l[1]),
			"cells in other order":   two(2) + two(6+len(cellText(leaf, l[1]))) + two(6) + cellText(leaf, l[1]) + cellText(leaf, l[0]),
			"a cell without a slot":  two(1) + two(4) + cellText(leaf, l[0]) + cellText(leaf, l[1]),
			"a slot without a cell":  two(2) + two(6) + two(6+len(cellText(leaf, l[0]))) + cellText(leaf, l[0]),
			"slots for no cells":     two(0) + two(4),
		}
		for name, w := range wrong {
			if m, e := node.Decode(leaf, w); len(m) != 0 || e != api.ErrForm {
				t.Errorf("%s of a %s, %s: %s %d", name, kind(leaf), brief(w), tell(m), e)
			}
			for _, key := range []string{"", l[1].Key, "m", "\xff\xff"} {
				checkSeek(t, leaf, w, key, 0, api.Cell{}, false)
			}
		}
	}
}

// TestOtherKind: a leaf's bytes read as a branch's, and a branch's as a leaf's.
func TestOtherKind(t *testing.T) {
	for _, leaf := range []bool{true, false} {
		lists := [][]api.Cell{sample(leaf), sample(leaf)[:1], sample(leaf)[:2], filled(leaf, 488)}
		if leaf {
			lists = append(lists, nil, []api.Cell{val("a", "x")}, []api.Cell{val("a", "\x00\x00")}, []api.Cell{over("a", 1, 97)})
		}
		for _, l := range lists {
			s, e := node.Encode(leaf, l)
			if e != api.OK {
				t.Fatalf("Encode of a %s of %s: %d", kind(leaf), tell(l), e)
			}
			if m, e := node.Decode(!leaf, s); len(m) != 0 || e != api.ErrForm {
				t.Errorf("Decode of a %s's %s as a %s's: %s %d", kind(leaf), brief(s), kind(!leaf), tell(m), e)
			}
			checkSeek(t, !leaf, s, "", 0, api.Cell{}, false)
			checkSeek(t, !leaf, s, "a", 0, api.Cell{}, false)
		}
	}
}

// TestForgedCells: bytes whose slots are right, of cells that may not be, or that have other bytes.
func TestForgedCells(t *testing.T) {
	leaves := []string{
		text("k") + "\x01" + four(0) + four(0), text("k") + "\x01" + four(0) + four(97), text("k") + "\x01" + four(1) + four(0),
		text("k") + "\x01" + four(1) + four(96), text("k") + "\x01" + four(1) + four(4001), text("k") + "\x01" + four(512) + four(97),
		text("k") + "\x01" + four(-1) + four(97), text("k") + "\x01" + four(1) + four(-1), text("k") + "\x01" + four(1<<31) + four(97),
		text("k") + "\x00" + text(long("v", 97)), text("") + "\x00" + text("v"), text("") + "\x01" + four(1) + four(97),
		text(long("k", 121)) + "\x00" + text("v"), text("k") + "\x00", text("k"), "", "\x00", "\x00\x01", text("k") + "\x00\x00", text("k") + "\x00\x00\x01",
		text("k") + "\x01", text("k") + "\x01\x00\x00\x00", text("k") + "\x01" + four(1), text("k") + "\x01" + four(1) + "\x00\x00\x00",
		"\x01\x00" + "k" + "\x00" + text("v"), "\xff\xff" + "k" + "\x00" + text("v"), text("k") + "\x00" + "\xff\xff" + "v",
	}
	for mark := 2; mark < 256; mark++ {
		leaves = append(leaves, text("k")+string([]byte{byte(mark)})+text("v"), text("k")+string([]byte{byte(mark)})+four(1)+four(97))
	}
	for _, c := range leaves {
		for _, s := range []string{joined(c), joined(cellText(true, val("a", "1")), c), joined(c, cellText(true, val("z", "1")))} {
			if l, e := node.Decode(true, s); len(l) != 0 || e != api.ErrForm {
				t.Errorf("Decode of a leaf's %s: %s %d", brief(s), tell(l), e)
			}
			checkSeek(t, true, s, "k", 0, api.Cell{}, false)
			checkSeek(t, true, s, "zz", 0, api.Cell{}, false)
		}
	}
	branches := []string{
		text("k") + four(0), text("k") + four(512), text("k") + four(-1), text("k") + four(1<<31), text("") + four(1), text(long("k", 121)) + four(1),
		text("k"), text("k") + "\x00\x00\x01", "", "\x00", "\x00\x01", "\x01\x00" + "k" + four(1), "\xff\xff" + "k" + four(1),
	}
	first := cellText(false, child("", 1))
	for _, c := range branches {
		for _, s := range []string{joined(first, c), joined(first, c, cellText(false, child("z", 1))), joined(first, cellText(false, child("a", 1)), c)} {
			if l, e := node.Decode(false, s); len(l) != 0 || e != api.ErrForm {
				t.Errorf("Decode of a branch's %s: %s %d", brief(s), tell(l), e)
			}
			checkSeek(t, false, s, "k", 0, api.Cell{}, false)
		}
	}
	for _, c := range []string{text("k") + four(1), text("") + four(0), text("") + four(512), text("") + four(-1)} {
		if l, e := node.Decode(false, joined(c)); len(l) != 0 || e != api.ErrForm {
			t.Errorf("Decode of a branch's %q: %s %d", joined(c), tell(l), e)
		}
	}
}

// TestValueTooShort: the fourth cell's value ends behind the bytes; whoever goes on from the beginning instead finds three more cells there, slots and all.
func TestValueTooShort(t *testing.T) {
	first := "v" + "vvv\x00" + two(13) + long("v", 13) + two(120) + "w"
	second := long("v", 39) + "\x00" + two(96)
	s := two(7) + two(16) + two(118) + two(221) + two(256) + two(0) + two(12) + two(42) +
		text("\x00") + "\x00" + text(first+long("v", 96-len(first))) +
		text("\x00\x01") + "\x00" + text(second+long("v", 96-len(second))) +
		text("\x00\x02") + "\x00" + text(long("v", 28)) +
		text("\x00\x03") + "\x00\xff\xff"
	if l, e := node.Decode(true, s); len(l) != 0 || e != api.ErrForm {
		t.Errorf("Decode of a leaf's %s: %s %d", brief(s), tell(l), e)
	}
	checkBytes(t, true, s)
}

// TestSeekTable has answers that are written out by hand.
func TestSeekTable(t *testing.T) {
	leaf := []api.Cell{val("b", "1"), over("d", 7, 97), val("dd", ""), val("f", "2")}
	s := nodeText(true, leaf)
	for _, x := range []struct {
		key   string
		place int
		same  bool
	}{
		{"", 0, false}, {"\x00", 0, false}, {"a", 0, false}, {"az", 0, false}, {"b", 0, true}, {"b\x00", 1, false}, {"c", 1, false}, {"d", 1, true}, {"d\x00", 2, false}, {"dc", 2, false},
		{"dd", 2, true}, {"dd\x00", 3, false}, {"e", 3, false}, {"f", 3, true}, {"f\x00", 4, false}, {"g", 4, false}, {"\xff", 4, false}, {long("b", 121), 1, false}, {long("z", 70000), 4, false},
	} {
		cell := api.Cell{}
		if x.place < 4 {
			cell = leaf[x.place]
		}
		checkSeek(t, true, s, x.key, x.place, cell, x.same)
	}
	branch := []api.Cell{child("", 9), child("b", 8), child("d", 7), child("dd", 6)}
	u := nodeText(false, branch)
	for _, x := range []struct {
		key   string
		place int
		same  bool
	}{
		{"", 0, true}, {"\x00", 0, false}, {"a", 0, false}, {"az", 0, false}, {"b", 1, true}, {"b\x00", 1, false}, {"c", 1, false}, {"d", 2, true}, {"d\x00", 2, false}, {"dc", 2, false},
		{"dd", 3, true}, {"dd\x00", 3, false}, {"e", 3, false}, {"\xff", 3, false}, {long("b", 121), 1, false}, {long("z", 70000), 3, false},
	} {
		checkSeek(t, false, u, x.key, x.place, branch[x.place], x.same)
	}
	for _, key := range []string{"", "\x00", "a", "\xff", long("z", 200)} {
		checkSeek(t, true, nodeText(true, nil), key, 0, api.Cell{}, false)
		checkSeek(t, true, nodeText(true, leaf[:1]), key, map[bool]int{true: 0, false: 1}[key <= "b"], map[bool]api.Cell{true: leaf[0]}[key <= "b"], false)
		checkSeek(t, false, nodeText(false, branch[:1]), key, 0, branch[0], key == "")
		for _, none := range []string{"", "x", "\x00", "\x00\x01", s + "\x00", s[1:], s[:len(s)-1], u + "\x00", long("x", 512)} {
			checkSeek(t, true, none, key, 0, api.Cell{}, false)
			checkSeek(t, false, none, key, 0, api.Cell{}, false)
		}
	}
}

// around: the keys of cells, those just ahead and behind, and ones between.
func around(l []api.Cell) []string {
	keys := []string{"", "\x00", "\xff", long("\xff", 130)}
	for _, c := range l {
		keys = append(keys, c.Key, c.Key+"\x00", c.Key+"\xff")
		if n := len(c.Key); n > 0 {
			keys = append(keys, c.Key[:n-1], c.Key[:n-1]+string([]byte{c.Key[n-1] - 1, 255}))
		}
	}
	return keys
}

func TestSeekAround(t *testing.T) {
	for _, leaf := range []bool{true, false} {
		for _, l := range [][]api.Cell{sample(leaf), filled(leaf, 488), many(leaf, 40, 3), many(leaf, 3, 2)} {
			for n := range len(l) + 1 {
				if !leaf && n == 0 {
					continue
				}
				for _, key := range around(l) {
					place, cell, same := placeOf(leaf, l[:n], key)
					checkSeek(t, leaf, nodeText(leaf, l[:n]), key, place, cell, same)
				}
			}
		}
	}
}

// TestHalveTable has answers that are written out by hand.
func TestHalveTable(t *testing.T) {
	big, small := val("k", long("v", 90)), val("k", "")
	for i, x := range []struct {
		leaf bool
		l    []api.Cell
		want int
	}{
		{true, nil, 0}, {false, nil, 0}, {true, []api.Cell{}, 0}, {true, []api.Cell{big}, 0}, {false, []api.Cell{child("", 1)}, 0},
		{true, []api.Cell{big, big}, 1}, {true, []api.Cell{big, small}, 1}, {true, []api.Cell{small, big}, 1}, {false, []api.Cell{child("", 1), child("k", 2)}, 1}, {true, []api.Cell{{}, {}}, 1},
		{true, []api.Cell{small, small, small}, 1}, {true, []api.Cell{big, small, small}, 1}, {true, []api.Cell{small, big, small}, 1}, {true, []api.Cell{small, small, big}, 2},
		{true, []api.Cell{small, small, small, small}, 2}, {true, []api.Cell{small, small, small, small, small}, 2}, {true, []api.Cell{small, small, small, small, small, small}, 3},
		{true, []api.Cell{big, small, small, small, small}, 1}, {true, []api.Cell{small, small, big, small, small}, 2}, {true, []api.Cell{small, small, small, small, big}, 4}, {true, []api.Cell{small, big, small, small}, 2},
		// Of a branch Val, Over and Size are no bytes; of a leaf Child isn't.
		{false, []api.Cell{big, small, small, small}, 2}, {false, []api.Cell{over("k", 1, 97), small, small, small}, 2}, {true, []api.Cell{small, small, child("k", 1<<40), child("k", 1)}, 2},
		// With an Over above 0 a Val is no bytes; with one below it is.
		{true, []api.Cell{{Key: "k", Val: long("v", 90), Over: 1}, small, small, small}, 2}, {true, []api.Cell{{Key: "k", Val: long("v", 90), Over: -1}, small, small, small}, 1}, {true, []api.Cell{{Key: "k", Over: -1}, small, small, small}, 2},
		{true, []api.Cell{{Key: "k", Val: long("v", 90), Size: 97}, small, small, small}, 1}, {true, []api.Cell{{Key: "k", Val: long("v", 90), Child: 7}, small, small, small}, 1},
		// An Over has six bytes more than a Val without any: the first half is the lesser one here.
		{true, []api.Cell{over("k", 1, 97), over("k", 1, 97), small, small, small}, 2}, {true, []api.Cell{over("k", 1<<40, 1<<50), over("k", math.MaxInt, math.MaxInt), small, small, small}, 2}, {true, []api.Cell{over("k", math.MinInt, math.MinInt), small, small, small}, 2},
		{false, []api.Cell{child("", 0), child("", -1), child("", math.MaxInt), child("", 1<<40)}, 2},
		{true, []api.Cell{val(long("k", 70000), ""), val("", long("v", 70001)), val("", "")}, 1}, {true, []api.Cell{val(long("k", 70001), ""), val("", long("v", 69000)), val("", "")}, 1}, {true, []api.Cell{val("", ""), val(long("k", 65536), ""), val("", ""), val("", ""), val("", "")}, 2},
		{true, []api.Cell{val("z", "1"), val("a", "1"), val("a", "1"), val("", "1")}, 2},
	} {
		if got := node.Halve(x.leaf, x.l); got != x.want {
			t.Errorf("%d: Halve of a %s of %s: %d, want %d", i, kind(x.leaf), tell(x.l), got, x.want)
		}
		checkHalve(t, x.leaf, x.l)
	}
}

// TestHalveOddCells: pairs, and lists with each odd cell at each place.
func TestHalveOddCells(t *testing.T) {
	odd := oddCells()
	for _, leaf := range []bool{true, false} {
		plain := []api.Cell{val("k", "v"), over("m", 2, 300), child("a", 4), {}}
		for _, c := range odd {
			checkHalve(t, leaf, []api.Cell{c})
			for at := range len(plain) + 1 {
				checkHalve(t, leaf, slices.Insert(slices.Clone(plain), at, c))
			}
		}
		r := rand.New(rand.NewSource(3))
		for range 3000 {
			var l []api.Cell
			for range r.Intn(9) {
				l = append(l, odd[r.Intn(len(odd))])
			}
			checkHalve(t, leaf, l)
		}
	}
}

// TestHalveEqual: of places that are equally good it is the first one.
func TestHalveEqual(t *testing.T) {
	for _, leaf := range []bool{true, false} {
		for n := 2; n < 70; n++ {
			l := slices.Repeat([]api.Cell{{Key: "k", Child: 1}}, n)
			if got := node.Halve(leaf, l); got != n/2 {
				t.Errorf("Halve of a %s of %d cells that are alike: %d, want %d", kind(leaf), n, got, n/2)
			}
			for at := range l {
				m := slices.Clone(l)
				m[at].Key = long("k", 1000)
				want := max(at, 1)
				if 2*at+1 < n {
					want = at + 1
				}
				if got := node.Halve(leaf, m); got != want {
					t.Errorf("Halve of a %s of %d cells, the great one at %d: %d, want %d", kind(leaf), n, at, got, want)
				}
			}
		}
	}
}

// someCell: one that may be, of one of three sizes: great, small, any.
func someCell(r *rand.Rand, leaf bool) api.Cell {
	key := make([]byte, []int{120, 1 + r.Intn(3), 1 + r.Intn(120)}[r.Intn(3)])
	for i := range key {
		key[i] = "\x00\x01ab\xfe\xff"[r.Intn(6)]
	}
	switch {
	case !leaf:
		return child(string(key), 1+r.Intn(511))
	case r.Intn(3) == 0:
		return over(string(key), 1+r.Intn(511), 97+r.Intn(3904))
	default:
		return val(string(key), long("v", []int{96, 0, r.Intn(97)}[r.Intn(3)]))
	}
}

// inOrder: cells by their keys, no two alike; a branch's first one has an empty key.
func inOrder(leaf bool, l []api.Cell) []api.Cell {
	sort.Slice(l, func(i, j int) bool { return l[i].Key < l[j].Key })
	l = slices.CompactFunc(l, func(a, b api.Cell) bool { return a.Key == b.Key })
	if !leaf && len(l) > 0 {
		l[0].Key = ""
	}
	return l
}

// TestRandomNodes: cells of all kinds, their bytes, and keys sought in them.
func TestRandomNodes(t *testing.T) {
	r := rand.New(rand.NewSource(6))
	for range 6000 {
		leaf := r.Intn(2) == 0
		var l []api.Cell
		for range r.Intn(12) {
			l = append(l, someCell(r, leaf))
		}
		l = inOrder(leaf, l)
		checkCells(t, leaf, l)
		checkHalve(t, leaf, l)
		for len(l) > 0 && partSize(leaf, l) > 488 {
			l = l[:len(l)-1]
		}
		s, e := node.Encode(leaf, l)
		if mayBe(leaf, l) != (e == api.OK) {
			t.Fatalf("Encode of a %s of %s: %d", kind(leaf), tell(l), e)
		}
		if e != api.OK {
			continue
		}
		for _, key := range around(l) {
			place, cell, same := placeOf(leaf, l, key)
			checkSeek(t, leaf, s, key, place, cell, same)
		}
		checkTurned(t, r, leaf, s)
	}
}

// checkTurned: a node's bytes with some changed, some gone and some doubled.
func checkTurned(t *testing.T, r *rand.Rand, leaf bool, s string) {
	t.Helper()
	for range 4 {
		b := []byte(s)
		for range 1 + r.Intn(3) {
			b[r.Intn(len(b))] = byte(r.Intn(256) >> r.Intn(8))
		}
		checkBytes(t, leaf, string(b))
		i := r.Intn(len(s))
		j := i + r.Intn(len(s)-i)
		checkBytes(t, leaf, s[:i]+s[j:])
		checkBytes(t, leaf, s[:j]+s[i:])
		checkBytes(t, !leaf, string(b))
	}
}

// TestFewGreatCells: any two of a leaf fit in a page, any three of a branch, and the greatest do not if they are one more.
func TestFewGreatCells(t *testing.T) {
	leaf := []api.Cell{val("a"+long("k", 119), long("v", 96)), val("b"+long("k", 119), long("v", 96)), val("c"+long("k", 119), long("v", 96))}
	if s, e := node.Encode(true, leaf[:2]); e != api.OK || len(s) != 448 {
		t.Errorf("Encode of the two greatest cells of a leaf: %d bytes, %d", len(s), e)
	}
	if s, e := node.Encode(true, leaf); e != api.ErrLong || s != "" {
		t.Errorf("Encode of the three greatest cells of a leaf: %d bytes, %d", len(s), e)
	}
	branch := []api.Cell{child("", 511), child("a"+long("k", 119), 511), child("b"+long("k", 119), 511), child("c"+long("k", 119), 511)}
	if s, e := node.Encode(false, branch[:3]); e != api.OK || len(s) != 266 {
		t.Errorf("Encode of the three greatest cells of a branch: %d bytes, %d", len(s), e)
	}
	if s, e := node.Encode(false, branch); e != api.OK || len(s) != 394 {
		t.Errorf("Encode of the four greatest cells of a branch: %d bytes, %d", len(s), e)
	}
	sizes := []int{1, 2, 60, 119, 120}
	for _, i := range sizes {
		for _, j := range sizes {
			for _, v := range []int{0, 1, 48, 95, 96} {
				for _, w := range []int{0, 1, 48, 95, 96} {
					fits(t, true, []api.Cell{val(long("a", i), long("v", v)), val(long("b", j), long("v", w))})
				}
				fits(t, true, []api.Cell{val(long("a", i), long("v", v)), over(long("b", j), 511, 4000)})
				fits(t, true, []api.Cell{over(long("a", i), 511, 4000), val(long("b", j), long("v", v))})
			}
			fits(t, true, []api.Cell{over(long("a", i), 1, 97), over(long("b", j), 511, 4000)})
			fits(t, false, []api.Cell{child("", 1), child(long("a", i), 511), child(long("b", j), 256)})
		}
	}
}

func fits(t *testing.T, leaf bool, l []api.Cell) {
	t.Helper()
	s, e := node.Encode(leaf, l)
	if e != api.OK || len(s) > 488 {
		t.Errorf("Encode of a %s of %s: %d bytes, %d", kind(leaf), tell(l), len(s), e)
	}
}

// TestOneMore: cells that fit in a page with one more are cut into two parts that fit; a right part of a branch has an empty key in front.
func TestOneMore(t *testing.T) {
	r := rand.New(rand.NewSource(9))
	cut := 0
	for range 1500 {
		leaf := r.Intn(2) == 0
		greatest := r.Intn(2)
		var l []api.Cell
		for len(l) < 60 {
			c := someCell(r, leaf)
			if greatest == 1 {
				c.Key = (c.Key + long("m", 120))[:120]
			}
			m := inOrder(leaf, append(slices.Clone(l), c))
			if partSize(leaf, m) > 488 {
				break
			}
			l = m
		}
		for at := range len(l) + 1 {
			cut += checkOneMore(t, leaf, l, at)
		}
	}
	if cut < 3000 {
		t.Errorf("%d lists alone were too long for a page", cut)
	}
}

// checkOneMore lays the greatest and the least cell at a place, and tells how many lists had to be cut.
func checkOneMore(t *testing.T, leaf bool, l []api.Cell, at int) int {
	t.Helper()
	if !leaf && at == 0 {
		return 0
	}
	ahead := ""
	if at > 0 {
		ahead = l[at-1].Key
	}
	great := (ahead + "\x00" + long("\x00", 120))[:120]
	cut := 0
	for _, key := range []string{great, (ahead + "\x00")[:min(120, len(ahead)+1)]} {
		cells := []api.Cell{child(key, 511)}
		if leaf {
			cells = []api.Cell{val(key, long("v", 96)), val(key, ""), over(key, 511, 4000)}
		}
		for _, c := range cells {
			m := slices.Insert(slices.Clone(l), at, c)
			if !mayBe(leaf, m) || partSize(leaf, m) <= 488 {
				continue
			}
			cut++
			i := node.Halve(leaf, m)
			if i < 1 || i >= len(m) {
				t.Fatalf("Halve of a %s of %s: %d", kind(leaf), tell(m), i)
			}
			fits(t, leaf, m[:i])
			rest := slices.Clone(m[i:])
			if partSize(leaf, rest) > 488 {
				t.Errorf("Halve of a %s of %s: %d, the second part has %d bytes", kind(leaf), tell(m), i, partSize(leaf, rest))
			}
			if !leaf {
				rest[0].Key = ""
			}
			fits(t, leaf, rest)
			checkHalve(t, leaf, m)
		}
	}
	return cut
}

// TestNewMemory: what is answered is the caller's; what is handed in stays, its spare room too.
func TestNewMemory(t *testing.T) {
	for _, leaf := range []bool{true, false} {
		room := append(sample(leaf), api.Cell{Key: "room", Val: "x", Child: 3})
		l := room[:len(room)-1]
		s, e := node.Encode(leaf, l)
		if e != api.OK {
			t.Fatal(e)
		}
		node.Right(leaf, l)
		node.Bytes(leaf, l)
		node.Halve(leaf, l)
		if !slices.Equal(l, sample(leaf)) || room[len(l)] != (api.Cell{Key: "room", Val: "x", Child: 3}) {
			t.Errorf("a %s's cells or their spare room were changed: %s", kind(leaf), tell(room))
		}
		first, _ := node.Decode(leaf, s)
		for i := range first {
			first[i] = api.Cell{Key: "changed"}
		}
		second, e := node.Decode(leaf, s)
		if e != api.OK || !slices.Equal(second, l) {
			t.Errorf("Decode of a %s's bytes, once more: %s %d", kind(leaf), tell(second), e)
		}
		place, cell, same := placeOf(leaf, l, "aa")
		checkSeek(t, leaf, s, "aa", place, cell, same)
	}
}

func FuzzDecode(f *testing.F) {
	for _, leaf := range []bool{true, false} {
		f.Add(leaf, nodeText(leaf, sample(leaf)), "a")
		f.Add(leaf, nodeText(leaf, filled(leaf, 488)), "b")
		f.Add(leaf, nodeText(leaf, filled(leaf, 489)), "b")
		f.Add(leaf, nodeText(leaf, sample(leaf)[:1]), "")
	}
	f.Add(true, "\x00\x00", "a")
	f.Add(true, joined(text("k")+"\x01"+four(0)+four(0)), "k")
	f.Fuzz(func(t *testing.T, leaf bool, s string, key string) {
		checkBytes(t, leaf, s)
		l, ok := cellsOf(leaf, s)
		if !ok {
			checkSeek(t, leaf, s, key, 0, api.Cell{}, false)
			return
		}
		checkCells(t, leaf, l)
		checkHalve(t, leaf, l)
		place, cell, same := placeOf(leaf, l, key)
		checkSeek(t, leaf, s, key, place, cell, same)
	})
}

// FuzzCells makes cells of bytes: what they are like is of all kinds.
func FuzzCells(f *testing.F) {
	f.Add(true, []byte("\x01a\x02b\x03c"))
	f.Add(false, []byte("\x00\x00\x01a\x02b"))
	f.Fuzz(func(t *testing.T, leaf bool, b []byte) {
		var l []api.Cell
		for len(b) >= 4 && len(l) < 80 {
			c := api.Cell{Key: long(string(b[:1]), int(b[1])%125)}
			switch b[2] % 4 {
			case 0:
				c.Val = long("v", int(b[3])%100)
			case 1:
				c.Over, c.Size = int(b[3])*3-100, int(b[1])*20
			case 2:
				c.Child = int(b[3])*3 - 100
			default:
				c.Val, c.Over, c.Child = long("v", int(b[3])%3), int(b[3])%5, int(b[1])%2
			}
			l, b = append(l, c), b[4:]
		}
		checkCells(t, leaf, l)
		checkHalve(t, leaf, l)
	})
}
