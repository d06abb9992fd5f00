package tree_test

import (
	"encoding/binary"
	"fmt"
	"maps"
	"slices"
	"sort"

	"rollbook/api"
)

const (
	room      = 488  // bytes of a page's body
	least     = 122  // bytes of a node that is no root
	lastPage  = 511  // the greatest number of a page
	maxKey    = 120  // bytes
	maxValue  = 4000 // bytes
	maxInline = 96   // bytes
	pieceRoom = 484  // bytes of a long value in a page
)

// The calls of Pages.
const (
	onLoad = 0
	onMake = 1
	onDrop = 2
)

var callNames = [3]string{"Load", "Make", "Drop"}

// tooMany is what a store panics with, if it is called without an end.
const tooMany = "the store was called without an end"

// store is Pages that keeps what is dropped, tells of each call, and fails where it is asked to.
type store struct {
	pages map[int]api.Page
	limit int // the greatest number that it makes
	down  bool
	made  []int
	gone  []int
	calls [3]int
	// The call of that kind that fails, counted from 1, and with what.
	failKind int
	failCall int
	failWith api.Errno
	failed   bool
	wrong    []string // what it was asked for that nobody should ask
}

func newStore() *store {
	return &store{pages: map[int]api.Page{}, limit: lastPage}
}

// fresh: the same pages, of which nothing was asked yet.
func (s *store) fresh() *store {
	return &store{pages: maps.Clone(s.pages), limit: s.limit, down: s.down}
}

// called: one more call; whether it fails.
func (s *store) called(kind int) bool {
	s.calls[kind]++
	if s.calls[0]+s.calls[1]+s.calls[2] > 20000 {
		panic(tooMany)
	}
	if s.failed {
		s.wrong = append(s.wrong, callNames[kind]+" behind an error")
	}
	if s.failCall > 0 && kind == s.failKind && s.calls[kind] == s.failCall {
		s.failed = true
	}
	return s.failed
}

// error: what a failing call answers.
func (s *store) error(e api.Errno) api.Errno {
	s.failed = true
	return e
}

func (s *store) Load(no int) (api.Page, api.Errno) {
	if s.called(onLoad) {
		// Beside an error something that would do.
		return s.pages[no], s.failWith
	}
	p, ok := s.pages[no]
	if !ok {
		return api.Page{Kind: api.PageLeaf, No: no, Body: "\x00\x00"}, s.error(api.ErrArg)
	}
	return p, api.OK
}

func (s *store) Make(kind int, body string) (int, api.Errno) {
	if s.called(onMake) {
		return s.free(), s.failWith
	}
	no := s.free()
	if no == 0 {
		return lastPage, s.error(api.ErrFull)
	}
	s.pages[no] = api.Page{Kind: kind, No: no, Txn: 1, Body: body}
	s.made = append(s.made, no)
	return no, api.OK
}

// free: a number that no page has, the least one or (down) the greatest; 0 if all are taken.
func (s *store) free() int {
	for i := 1; i <= s.limit; i++ {
		no := i
		if s.down {
			no = s.limit + 1 - i
		}
		if _, ok := s.pages[no]; !ok {
			return no
		}
	}
	return 0
}

func (s *store) Drop(no int) api.Errno {
	if s.called(onDrop) {
		return s.failWith
	}
	if _, ok := s.pages[no]; !ok {
		s.wrong = append(s.wrong, fmt.Sprintf("Drop(%d) of no page", no))
	}
	if slices.Contains(s.gone, no) {
		s.wrong = append(s.wrong, fmt.Sprintf("Drop(%d) twice", no))
	}
	s.gone = append(s.gone, no)
	return api.OK
}

// begin: nothing was asked yet.
func (s *store) begin() {
	s.made, s.gone, s.calls, s.failed = nil, nil, [3]int{}, false
}

// sweep: the pages that were dropped are there no more.
func (s *store) sweep() {
	for _, no := range s.gone {
		delete(s.pages, no)
	}
	s.gone = nil
}

// keep: no pages are there but those of these trees.
func (s *store) keep(trees ...*look) {
	for no := range s.pages {
		if !slices.ContainsFunc(trees, func(l *look) bool { return l.pages[no] }) {
			delete(s.pages, no)
		}
	}
}

// add: a page with that number, or with the next free one (0).
func (s *store) add(no, kind int, body string) int {
	if no == 0 {
		no = s.free()
	}
	s.pages[no] = api.Page{Kind: kind, No: no, Txn: 1, Body: body}
	return no
}

// leafBytes and branchBytes lay cells as a node's bytes, whatever they are.
func leafBytes(cells ...api.Cell) string {
	return nodeBytes(cells, func(c api.Cell) []byte {
		b := lenText(nil, c.Key)
		if c.Over != 0 {
			b = append(b, 1)
			b = binary.BigEndian.AppendUint32(b, uint32(c.Over))
			return binary.BigEndian.AppendUint32(b, uint32(c.Size))
		}
		return lenText(append(b, 0), c.Val)
	})
}

func branchBytes(cells ...api.Cell) string {
	return nodeBytes(cells, func(c api.Cell) []byte {
		return binary.BigEndian.AppendUint32(lenText(nil, c.Key), uint32(c.Child))
	})
}

func lenText(b []byte, s string) []byte {
	return append(binary.BigEndian.AppendUint16(b, uint16(len(s))), s...)
}

func nodeBytes(cells []api.Cell, lay func(c api.Cell) []byte) string {
	head := binary.BigEndian.AppendUint16(nil, uint16(len(cells)))
	var body []byte
	for _, c := range cells {
		head = binary.BigEndian.AppendUint16(head, uint16(2+2*len(cells)+len(body)))
		body = append(body, lay(c)...)
	}
	return string(head) + string(body)
}

// pieceBytes: a piece of a long value, with the number of the next one's page.
func pieceBytes(next int, s string) string {
	return string(binary.BigEndian.AppendUint32(nil, uint32(next))) + s
}

// addLong: the pages of a long value; the first one's number.
func (s *store) addLong(val string) int {
	var pieces []string
	for ; len(val) > pieceRoom; val = val[pieceRoom:] {
		pieces = append(pieces, val[:pieceRoom])
	}
	pieces = append(pieces, val)
	next := 0
	for _, p := range slices.Backward(pieces) {
		next = s.add(0, api.PageOver, pieceBytes(next, p))
	}
	return next
}

// cellsOf: the cells of a node's bytes, read by hand; with what is amiss.
func cellsOf(leaf bool, body string) (cells []api.Cell, amiss string) {
	defer func() {
		if recover() != nil {
			amiss = "bytes that end too early"
		}
	}()
	b := []byte(body)
	n := int(binary.BigEndian.Uint16(b))
	at := 2 + 2*n
	text := func() string {
		from := at + 2
		at = from + int(binary.BigEndian.Uint16(b[at:]))
		return string(b[from:at])
	}
	number := func() int {
		at += 4
		return int(binary.BigEndian.Uint32(b[at-4:]))
	}
	for i := range n {
		if int(binary.BigEndian.Uint16(b[2+2*i:])) != at {
			return nil, "a slot that names another place"
		}
		c := api.Cell{Key: text()}
		switch {
		case !leaf:
			c.Child = number()
		case b[at] == 0:
			at++
			c.Val = text()
		default:
			at++
			c.Over = number()
			c.Size = number()
		}
		cells = append(cells, c)
	}
	if at != len(b) {
		return nil, "bytes behind the cells"
	}
	return cells, ""
}

// look is what a tree is, read by hand.
type look struct {
	store  *store
	keys   []string
	vals   map[string]string
	pages  map[int]bool
	height map[int]int   // of a node's page; leaves have 0
	above  map[int]int   // of a node's page, the page of the one above it
	kids   map[int][]int // of a branch's page
	pieces map[string][]int
	depth  int
	amiss  []string
}

func (l *look) fault(no int, format string, a ...any) {
	l.amiss = append(l.amiss, fmt.Sprintf("page %d: ", no)+fmt.Sprintf(format, a...))
}

func lookAt(s *store, root int) *look {
	l := &look{store: s, vals: map[string]string{}, pages: map[int]bool{}, height: map[int]int{}, above: map[int]int{}, kids: map[int][]int{}, pieces: map[string][]int{}}
	if root != 0 {
		l.node(root, 1, "", "", false)
		l.heights(root)
	}
	if l.depth > 10 {
		l.fault(root, "the tree is %d deep", l.depth)
	}
	if !sort.StringsAreSorted(l.keys) {
		l.fault(root, "keys out of order")
	}
	return l
}

// node: a node, that stands for the keys from low on, up to high (bounded).
func (l *look) node(no, depth int, low, high string, bounded bool) {
	p, ok := l.store.pages[no]
	if !ok || l.pages[no] || depth > 12 {
		l.fault(no, "there: %v, met before: %v, %d deep", ok, l.pages[no], depth)
		return
	}
	l.pages[no] = true
	leaf := p.Kind == api.PageLeaf
	cells, amiss := cellsOf(leaf, p.Body)
	switch {
	case !leaf && p.Kind != api.PageBranch:
		l.fault(no, "kind %d", p.Kind)
		return
	case amiss != "":
		l.fault(no, "%s", amiss)
		return
	case len(p.Body) > room, depth > 1 && len(p.Body) < least:
		l.fault(no, "%d bytes, %d deep", len(p.Body), depth)
	case !leaf && len(cells) < 2:
		l.fault(no, "%d cells", len(cells))
	}
	for i, c := range cells {
		if i > 0 && c.Key <= cells[i-1].Key || len(c.Key) > maxKey || (c.Key == "") != (!leaf && i == 0) {
			l.fault(no, "key %q behind another one", c.Key)
		}
		if c.Key != "" && (c.Key < low || bounded && c.Key >= high) {
			l.fault(no, "key %q isn't from %q to %q", c.Key, low, high)
		}
		switch {
		case leaf:
			l.leafCell(no, depth, c)
		case i+1 < len(cells):
			l.child(no, c.Child, depth, max(c.Key, low), cells[i+1].Key, true)
		default:
			l.child(no, c.Child, depth, max(c.Key, low), high, bounded)
		}
	}
	if leaf && l.depth != 0 && l.depth != depth {
		l.fault(no, "a leaf %d deep beside one %d deep", depth, l.depth)
	}
	if leaf {
		l.depth = depth
	}
}

func (l *look) child(no, kid, depth int, low, high string, bounded bool) {
	l.kids[no] = append(l.kids[no], kid)
	l.above[kid] = no
	l.node(kid, depth+1, low, high, bounded)
}

func (l *look) leafCell(no, depth int, c api.Cell) {
	l.keys = append(l.keys, c.Key)
	if c.Over == 0 {
		if len(c.Val) > maxInline {
			l.fault(no, "a value of %d bytes beside its key", len(c.Val))
		}
		l.vals[c.Key] = c.Val
		return
	}
	if c.Size <= maxInline || c.Size > maxValue {
		l.fault(no, "a long value of %d bytes", c.Size)
	}
	val, at := "", c.Over
	for at != 0 && !l.pages[at] {
		p := l.store.pages[at]
		if p.Kind != api.PageOver || len(p.Body) < 5 || len(p.Body) > room {
			l.fault(at, "a piece of kind %d with %d bytes", p.Kind, len(p.Body))
			return
		}
		l.pages[at] = true
		l.pieces[c.Key] = append(l.pieces[c.Key], at)
		val += p.Body[4:]
		next := int(binary.BigEndian.Uint32([]byte(p.Body)))
		if next != 0 && len(p.Body) != room {
			l.fault(at, "a piece that isn't full ahead of another one")
		}
		at = next
	}
	if at != 0 || len(val) != c.Size {
		l.fault(no, "pieces of %d bytes for a value of %d, then page %d", len(val), c.Size, at)
	}
	l.vals[c.Key] = val
}

func (l *look) heights(no int) int {
	h := 0
	for _, k := range l.kids[no] {
		if l.above[k] == no {
			h = 1 + l.heights(k)
		}
	}
	l.height[no] = h
	return h
}

// way: the pages of the nodes from a key's leaf up to the root, read by hand.
func (l *look) way(root int, key string) []int {
	var way []int
	for no := root; no != 0; {
		way = append(way, no)
		next := 0
		if p := l.store.pages[no]; p.Kind == api.PageBranch {
			cells, _ := cellsOf(false, p.Body)
			for _, c := range cells {
				if c.Key <= key {
					next = c.Child
				}
			}
		}
		no = next
	}
	slices.Reverse(way)
	return way
}

// same: what two readings of a tree tell otherwise; nothing, if they are alike.
func (l *look) same(other *look) string {
	switch {
	case !maps.Equal(l.vals, other.vals):
		return "other keys or values"
	case !maps.Equal(l.pages, other.pages):
		return "other pages"
	}
	return ""
}

func sorted(m map[int]bool) []int {
	return slices.Sorted(maps.Keys(m))
}
