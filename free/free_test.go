package free_test

import (
	"encoding/binary"
	"fmt"
	"math"
	"math/bits"
	"math/rand"
	"slices"
	"sort"
	"testing"

	"rollbook/api"
	"rollbook/free"
)

const (
	greatest = 1 << 40 // the greatest transaction
	last     = 511     // the greatest page
	fits     = 40      // of a piece
	room     = 488     // of a page's body
)

// noTxns are numbers that no transaction has.
var noTxns = []int{-1, greatest + 1, -2, -512, -greatest, greatest + 2, 2 * greatest, math.MinInt, math.MaxInt}

// noPages are numbers that no page that may be free has.
var noPages = []int{-1, 0, 512, 513, -2, -511, -512, 1023, 1024, 1 << 16, 1<<32 + 1, 1 << 32, -1 << 32, math.MinInt, math.MaxInt}

// someTxns are numbers that transactions have.
var someTxns = []int{0, 1, 2, 5, 255, 256, 1 << 16, 1<<31 - 1, 1 << 31, 1<<32 - 1, 1 << 32, greatest - 1, greatest}

// somePages are numbers that pages have.
var somePages = []int{1, 2, 3, 39, 40, 41, 127, 128, 255, 256, 257, 510, last}

func page(txn, no int) api.Free {
	return api.Free{Txn: txn, Page: no}
}

func mayBe(f api.Free) bool {
	return 0 <= f.Txn && f.Txn <= greatest && 0 < f.Page && f.Page < 512
}

// rank is a number for each free page that may be: they stand in the order of theirs.
func rank(f api.Free) int {
	return f.Txn*512 + f.Page
}

func inOrder(l []api.Free) []api.Free {
	l = slices.Clone(l)
	sort.Slice(l, func(i, j int) bool { return rank(l[i]) < rank(l[j]) })
	return l
}

// happening is what became of a page.
type happening struct {
	page  int
	added bool
	txn   int
}

// story is all that happened to a list, and is what its pages are told from: it keeps no list itself.
type story []happening

// freed: by whom a page was freed, if it is free.
func (s story) freed(page int) (int, bool) {
	for i := len(s) - 1; i >= 0; i-- {
		if s[i].page == page {
			return s[i].txn, s[i].added
		}
	}
	return 0, false
}

// all: what is free, in order.
func (s story) all() []api.Free {
	seen := map[int]bool{}
	var l []api.Free
	for i := len(s) - 1; i >= 0; i-- {
		if !seen[s[i].page] && s[i].added {
			l = append(l, page(s[i].txn, s[i].page))
		}
		seen[s[i].page] = true
	}
	return inOrder(l)
}

func (s *story) add(f api.Free) api.Errno {
	if !mayBe(f) {
		return api.ErrArg
	}
	if _, ok := s.freed(f.Page); ok {
		return api.ErrThere
	}
	*s = append(*s, happening{page: f.Page, added: true, txn: f.Txn})
	return api.OK
}

func (s *story) take(upto int) (int, bool) {
	for _, f := range s.all() {
		if f.Txn <= upto {
			*s = append(*s, happening{page: f.Page})
			return f.Page, true
		}
	}
	return 0, false
}

// fault: what a list tells otherwise than it must with these free pages, which are in order; nothing, if it's right.
func fault(x *free.List, want []api.Free) string {
	var there [512]bool
	for _, f := range want {
		there[f.Page] = true
	}
	for no := 1; no <= last; no++ {
		if got := x.Has(no); got != there[no] {
			return fmt.Sprintf("Has(%d) = %v with %v", no, got, want)
		}
	}
	for _, no := range noPages {
		if x.Has(no) {
			return fmt.Sprintf("Has(%d), but there is no such page", no)
		}
	}
	if n := x.Count(); n != len(want) {
		return fmt.Sprintf("Count() = %d with %v", n, want)
	}
	if got := x.All(); !slices.Equal(got, want) {
		return fmt.Sprintf("All() = %v, not %v", got, want)
	}
	return ""
}

// is: that a list has these free pages, by all calls that only ask.
func is(t *testing.T, x *free.List, want ...api.Free) {
	t.Helper()
	if s := fault(x, want); s != "" {
		t.Fatal(s)
	}
}

func add(t *testing.T, x *free.List, f api.Free, want api.Errno) {
	t.Helper()
	if e := x.Add(f); e != want {
		t.Fatalf("Add(%v): error %d, not %d", f, e, want)
	}
}

func take(t *testing.T, x *free.List, upto, want int) {
	t.Helper()
	if no, ok := x.Take(upto); no != want || !ok {
		t.Fatalf("Take(%d) = %d, %v, not page %d", upto, no, ok, want)
	}
}

func noTake(t *testing.T, x *free.List, upto int) {
	t.Helper()
	if no, ok := x.Take(upto); no != 0 || ok {
		t.Fatalf("Take(%d) = %d, %v, not 0, false", upto, no, ok)
	}
}

// list: one of these pages, added in this order.
func list(t *testing.T, l ...api.Free) *free.List {
	t.Helper()
	x := free.New()
	for _, f := range l {
		add(t, x, f, api.OK)
	}
	is(t, x, inOrder(l)...)
	return x
}

func TestExample(t *testing.T) {
	x := free.New()
	add(t, x, page(7, 3), api.OK)
	add(t, x, page(5, 9), api.OK)
	take(t, x, 6, 9)
	noTake(t, x, 6)
	take(t, x, 7, 3)
	noTake(t, x, 7)
	is(t, x)
}

func TestNewHasNone(t *testing.T) {
	x := free.New()
	if x == nil {
		t.Fatal("nobody is there")
	}
	is(t, x)
	for _, upto := range append(slices.Clone(someTxns), noTxns...) {
		noTake(t, x, upto)
	}
	is(t, x)
}

func TestAddOfAllThatMayBe(t *testing.T) {
	for _, txn := range someTxns {
		for _, no := range somePages {
			x := list(t, page(txn, no))
			noTake(t, x, txn-1)
			is(t, x, page(txn, no))
			take(t, x, txn, no)
			is(t, x)
		}
	}
}

// oddPages: free pages that may not be, by their transaction, by their page and by both.
func oddPages() []api.Free {
	var l []api.Free
	for _, txn := range noTxns {
		for _, no := range append([]int{1, 3, last}, noPages...) {
			l = append(l, page(txn, no))
		}
	}
	for _, txn := range []int{0, 1, 7, greatest} {
		for _, no := range noPages {
			l = append(l, page(txn, no))
		}
	}
	return l
}

func TestAddRefusesWhatMayNotBe(t *testing.T) {
	for _, held := range [][]api.Free{nil, {page(7, 3)}, {page(0, 1), page(7, 3), page(greatest, last)}} {
		x := list(t, held...)
		for _, f := range oddPages() {
			add(t, x, f, api.ErrArg) // its page is in the list too, of some
			is(t, x, held...)
		}
	}
}

func TestAddOfAPageThatIsThere(t *testing.T) {
	for _, txn := range someTxns {
		for _, no := range somePages {
			x := list(t, page(txn, no))
			for _, other := range someTxns {
				add(t, x, page(other, no), api.ErrThere)
				is(t, x, page(txn, no))
			}
			add(t, x, page(-1, no), api.ErrArg)
			add(t, x, page(greatest+1, no), api.ErrArg)
			is(t, x, page(txn, no))
		}
	}
}

// orders: in which the pages of a full list may come, of one transaction, of one each, and of a few.
func orders() map[string][]api.Free {
	all := map[string][]api.Free{}
	for no := 1; no <= last; no++ {
		all["rising, one transaction"] = append(all["rising, one transaction"], page(7, no))
		all["rising, transactions too"] = append(all["rising, transactions too"], page(no-1, no))
		all["rising, transactions falling"] = append(all["rising, transactions falling"], page(greatest-no, no))
		all["rising, few transactions"] = append(all["rising, few transactions"], page(no*7%5, no))
		all["falling, one transaction"] = append(all["falling, one transaction"], page(0, 512-no))
		all["falling, transactions rising"] = append(all["falling, transactions rising"], page(no, 512-no))
		all["falling, transactions too"] = append(all["falling, transactions too"], page(greatest-no, 512-no))
		all["mixed"] = append(all["mixed"], page(no*11%13, no*200%511+1))
	}
	return all
}

func TestFullList(t *testing.T) {
	for name, l := range orders() {
		t.Run(name, func(t *testing.T) {
			x := list(t, l...)
			if x.Count() != last {
				t.Fatalf("%d pages", x.Count())
			}
			for _, no := range somePages {
				add(t, x, page(0, no), api.ErrThere)
				add(t, x, page(greatest, no), api.ErrThere)
				add(t, x, page(-1, no), api.ErrArg)
			}
			for _, no := range noPages {
				add(t, x, page(5, no), api.ErrArg)
			}
			is(t, x, inOrder(l)...)
			emptied(t, x, inOrder(l))
		})
	}
}

// emptied: that what is left is taken in order, each by its own transaction and by none below it.
func emptied(t *testing.T, x *free.List, left []api.Free) {
	t.Helper()
	for len(left) > 0 {
		noTake(t, x, left[0].Txn-1)
		take(t, x, left[0].Txn, left[0].Page)
		left = left[1:]
		is(t, x, left...)
	}
	noTake(t, x, math.MaxInt)
}

func TestTakeBelowAtAndAbove(t *testing.T) {
	l := []api.Free{page(20, 1), page(10, 8), page(30, 2)}
	for upto, want := range map[int]int{
		math.MinInt: 0, -greatest: 0, -10: 0, -1: 0, 0: 0, 1: 0, 9: 0,
		10: 8, 11: 8, 19: 8, 20: 8, 21: 8, 29: 8, 30: 8, 31: 8, greatest: 8, greatest + 1: 8, math.MaxInt: 8,
	} {
		x := list(t, l...)
		if want == 0 {
			noTake(t, x, upto)
			is(t, x, inOrder(l)...)
		} else {
			take(t, x, upto, want)
			is(t, x, page(20, 1), page(30, 2))
		}
	}
}

func TestTakeUpToEach(t *testing.T) {
	l := []api.Free{page(30, 2), page(10, 8), page(20, 1)}
	for upto, want := range map[int][]int{-1: nil, 9: nil, 10: {8}, 19: {8}, 20: {8, 1}, 29: {8, 1}, 30: {8, 1, 2}, 31: {8, 1, 2}, math.MaxInt: {8, 1, 2}} {
		x := list(t, l...)
		for _, no := range want {
			take(t, x, upto, no)
		}
		noTake(t, x, upto)
		is(t, x, inOrder(l)[len(want):]...)
	}
}

func TestTakeOfTransactionNoughtAndTheGreatest(t *testing.T) {
	x := list(t, page(greatest, 4), page(0, 9))
	noTake(t, x, -1)
	noTake(t, x, math.MinInt)
	take(t, x, 0, 9)
	noTake(t, x, 0)
	noTake(t, x, greatest-1)
	is(t, x, page(greatest, 4))
	take(t, x, greatest, 4)
	noTake(t, x, greatest)
	noTake(t, x, math.MaxInt)
	is(t, x)
}

func TestTakeOfPagesOfOneTransaction(t *testing.T) {
	x := list(t, page(5, 40), page(5, 7), page(6, 1), page(5, 511))
	noTake(t, x, 4)
	take(t, x, 5, 7)
	add(t, x, page(5, 7), api.OK)
	take(t, x, 5, 7)
	add(t, x, page(6, 7), api.OK)
	take(t, x, 6, 40)
	add(t, x, page(4, 40), api.OK)
	is(t, x, page(4, 40), page(5, 511), page(6, 1), page(6, 7))
	take(t, x, 4, 40)
	noTake(t, x, 4)
	take(t, x, 5, 511)
	noTake(t, x, 5)
	take(t, x, 6, 1)
	take(t, x, 6, 7)
	is(t, x)
}

func TestTakenAndAddedAgain(t *testing.T) {
	for _, txn := range someTxns {
		x := list(t, page(3, 6))
		take(t, x, 3, 6)
		noTake(t, x, math.MaxInt)
		is(t, x)
		add(t, x, page(txn, 6), api.OK)
		is(t, x, page(txn, 6))
		add(t, x, page(3, 6), api.ErrThere)
		noTake(t, x, txn-1)
		take(t, x, txn, 6)
		is(t, x)
	}
}

func TestHas(t *testing.T) {
	x := list(t, page(0, 1), page(9, last), page(greatest, 256))
	for no := -600; no <= 1600; no++ {
		if got, want := x.Has(no), no == 1 || no == 256 || no == last; got != want {
			t.Errorf("Has(%d) = %v", no, got)
		}
	}
	for _, no := range noPages {
		if x.Has(no) {
			t.Errorf("Has(%d)", no)
		}
	}
}

// What is answered is new memory: whoever has it may do with it what they want, its spare room too.
func TestAllIsNewMemory(t *testing.T) {
	for name, l := range orders() {
		x := list(t, l...)
		first, second := x.All(), x.All()
		first = first[:cap(first)]
		for i := range first {
			first[i] = page(1000+i, 1)
		}
		if !slices.Equal(second, inOrder(l)) {
			t.Fatalf("%s: another answer was changed", name)
		}
		is(t, x, inOrder(l)...)
		take(t, x, math.MaxInt, second[0].Page)
		add(t, x, page(greatest, second[0].Page), api.OK)
		if !slices.Equal(second, inOrder(l)) {
			t.Fatalf("%s: an answer was changed by a later call", name)
		}
	}
}

func TestCopy(t *testing.T) {
	x := list(t, page(7, 3), page(5, 9), page(0, last))
	c := x.Copy()
	if c == nil || c == x {
		t.Fatal("no other list")
	}
	is(t, c, page(0, last), page(5, 9), page(7, 3))
	take(t, x, 7, last)
	add(t, x, page(2, 100), api.OK)
	is(t, x, page(2, 100), page(5, 9), page(7, 3))
	is(t, c, page(0, last), page(5, 9), page(7, 3))
	take(t, c, 7, last)
	take(t, c, 7, 9)
	add(t, c, page(1, 9), api.OK)
	add(t, c, page(4, 200), api.OK)
	is(t, c, page(1, 9), page(4, 200), page(7, 3))
	is(t, x, page(2, 100), page(5, 9), page(7, 3))
}

func TestCopyOfEmptyAndFull(t *testing.T) {
	x := free.New()
	c := x.Copy()
	is(t, c)
	add(t, c, page(1, 1), api.OK)
	is(t, x)
	add(t, x, page(2, 2), api.OK)
	is(t, c, page(1, 1))
	for name, l := range orders() {
		x := list(t, l...)
		c, d := x.Copy(), x.Copy()
		emptied(t, x, inOrder(l))
		if s := fault(c, inOrder(l)); s != "" {
			t.Fatalf("%s: the copy of a list that was emptied: %s", name, s)
		}
		emptied(t, c, inOrder(l))
		is(t, d, inOrder(l)...)
	}
}

func TestTwoLists(t *testing.T) {
	x, y := free.New(), free.New()
	if x == y {
		t.Fatal("two lists are one")
	}
	add(t, x, page(5, 5), api.OK)
	is(t, y)
	add(t, y, page(6, 5), api.OK)
	is(t, x, page(5, 5))
	take(t, y, 6, 5)
	is(t, x, page(5, 5))
	is(t, free.New())
}

func TestNil(t *testing.T) {
	var x *free.List
	for _, f := range append(oddPages(), page(0, 1), page(7, 3), page(greatest, last)) {
		add(t, x, f, api.ErrNil)
		noTake(t, x, f.Txn)
		if x.Has(f.Page) {
			t.Errorf("Has(%d) of nobody", f.Page)
		}
	}
	is(t, x)
	if x.Copy() != nil {
		t.Error("a copy of nobody")
	}
}

// call is one of the calls that change a list, on the first or the second one of two.
type call struct {
	name string
	on   int
	f    api.Free // Add: what is added; Take: by its Txn what is asked for
}

// pair is two lists, each with its story. Copy makes the other one a copy of the one that it is called on.
type pair struct {
	lists   [2]*free.List
	stories [2]story
}

func newPair() *pair {
	return &pair{lists: [2]*free.List{free.New(), free.New()}}
}

// step: a call on a list and on its story; what it answers otherwise, if so.
func (p *pair) step(c call) string {
	x, s := p.lists[c.on], &p.stories[c.on]
	got, want := "", ""
	switch c.name {
	case "Add":
		got, want = fmt.Sprint(x.Add(c.f)), fmt.Sprint(s.add(c.f))
	case "Take":
		got, want = fmt.Sprint(x.Take(c.f.Txn)), fmt.Sprint(s.take(c.f.Txn))
	default:
		p.lists[1-c.on] = x.Copy()
		p.stories[1-c.on] = slices.Clone(*s)
	}
	if got != want {
		return fmt.Sprintf("%v = %s, not %s", c, got, want)
	}
	return ""
}

func (p *pair) fault() string {
	for i, x := range p.lists {
		if s := fault(x, p.stories[i].all()); s != "" {
			return fmt.Sprintf("list %d: %s", i, s)
		}
	}
	return ""
}

// play: calls, one behind the other, each answer held against the stories, and both lists behind each one from a place on.
func play(t *testing.T, calls []call, from int) {
	t.Helper()
	p := newPair()
	for i, c := range calls {
		s := p.step(c)
		if s == "" && i >= from {
			s = p.fault()
		}
		if s != "" {
			t.Fatalf("behind %v: %s", calls[max(0, i-12):i+1], s)
		}
	}
}

// Each list of three pages, each freed by nobody or by one of three transactions, and each call of it.
func TestEachCallOfSmallLists(t *testing.T) {
	nos := []int{1, 2, last}
	txns := []int{-1, 0, 1, greatest, greatest + 1}
	for n := range 4 * 4 * 4 {
		var held []api.Free
		for i, by := range []int{n % 4, n / 4 % 4, n / 16} {
			if by > 0 {
				held = append(held, page(txns[by], nos[i]))
			}
		}
		for _, txn := range txns {
			calls := []call{{name: "Take", f: page(txn, 0)}, {name: "Copy"}}
			for _, no := range []int{-1, 0, 1, 2, 3, 510, last, 512} {
				calls = append(calls, call{name: "Add", f: page(txn, no)})
			}
			for _, c := range calls {
				p := newPair()
				for _, f := range held {
					p.step(call{name: "Add", f: f})
				}
				if s := p.step(c) + p.fault(); s != "" {
					t.Fatalf("list of %v, then %v: %s", held, c, s)
				}
			}
		}
	}
}

// All plays of up to five calls: pages that come, go and come again in each order, and copies among them.
func TestAllShortPlays(t *testing.T) {
	kinds := []call{
		{"Add", 0, page(0, 2)}, {"Add", 0, page(1, 1)}, {"Add", 0, page(1, 2)}, {"Add", 1, page(1, 2)},
		{"Take", 0, page(0, 0)}, {"Take", 0, page(1, 0)}, {"Take", 1, page(1, 0)}, {"Copy", 0, api.Free{}},
	}
	plays := [][]call{nil}
	for n := range 5 {
		var longer [][]call
		for _, p := range plays {
			for _, c := range kinds {
				longer = append(longer, append(slices.Clone(p), c))
			}
		}
		for _, p := range longer {
			play(t, p, n) // what is behind the calls ahead was looked at in the shorter plays
		}
		plays = longer
	}
}

// someCall is of any kind; pages come more often than they go as long as more is true.
func someCall(r *rand.Rand, pages int, more bool) call {
	c := call{on: r.Intn(2), f: page(r.Intn(10), r.Intn(pages)+1)}
	if r.Intn(10) == 0 {
		c.f.Txn = r.Intn(8) << r.Intn(40)
	}
	kind := r.Intn(100)
	switch {
	case kind == 0:
		c.name = "Copy"
	case kind == 1:
		c.name, c.f.Page = "Add", noPages[r.Intn(len(noPages))]
	case kind == 2:
		c.name, c.f.Txn = "Add", noTxns[r.Intn(len(noTxns))]
	case kind == 3:
		c.name, c.f.Txn = "Take", noTxns[r.Intn(len(noTxns))]
	case kind < 30 == more:
		c.name = "Take"
	default:
		c.name = "Add"
	}
	return c
}

func TestLongPlays(t *testing.T) {
	r := rand.New(rand.NewSource(8))
	for _, pages := range []int{4, 12, 60, last} {
		for range 12 {
			list := make([]call, 400)
			for i := range list {
				list[i] = someCall(r, pages, i/100%2 == 0)
			}
			play(t, list, 0)
		}
	}
}

// Of what is taken nothing is asked here but that it was added, by whom, and not taken since.
func TestWhatIsTakenWasAdded(t *testing.T) {
	r := rand.New(rand.NewSource(80))
	x := free.New()
	by := map[int]int{}
	for range 20000 {
		txn := r.Intn(40)
		if r.Intn(2) == 0 {
			f := page(txn, r.Intn(last)+1)
			if x.Add(f) == api.OK {
				by[f.Page] = txn
			}
			continue
		}
		no, ok := x.Take(txn)
		was, added := by[no]
		if ok != added || was > txn {
			t.Fatalf("Take(%d) = %d, %v, added: %v, by %d", txn, no, ok, added, was)
		}
		delete(by, no)
	}
}

func FuzzPlays(f *testing.F) {
	f.Add([]byte{})
	f.Add([]byte{0, 7, 3, 0, 5, 9, 2, 6, 0, 2, 6, 0, 2, 7, 0})
	f.Add([]byte{0, 1, 1, 4, 0, 0, 1, 2, 2, 3, 9, 0, 5, 0, 0, 2, 1, 0})
	f.Fuzz(func(t *testing.T, b []byte) {
		var list []call
		for len(b) >= 3 && len(list) < 200 {
			name := []string{"Add", "Take", "Copy"}[b[0]/2%3]
			list = append(list, call{name, int(b[0] % 2), page(int(b[1])-2, int(b[2])*3-3)})
			b = b[3:]
		}
		play(t, list, 0)
	})
}

// pieceText: what the chapter says of a piece's bytes, of any numbers, whether they may be or not.
func pieceText(next int, l []api.Free) string {
	return laid(next, len(l), l)
}

// laid: such bytes, with a count of their own.
func laid(next, count int, l []api.Free) string {
	b := binary.BigEndian.AppendUint32(nil, uint32(next))
	b = binary.BigEndian.AppendUint16(b, uint16(count))
	for _, f := range l {
		b = binary.BigEndian.AppendUint64(b, uint64(f.Txn))
		b = binary.BigEndian.AppendUint32(b, uint32(f.Page))
	}
	return string(b)
}

// rightPiece: may a piece have these?
func rightPiece(next int, l []api.Free) bool {
	if next < 0 || next > last || len(l) > fits {
		return false
	}
	seen := map[int]bool{}
	for i, f := range l {
		if !mayBe(f) || seen[f.Page] || i > 0 && rank(f) < rank(l[i-1]) {
			return false
		}
		seen[f.Page] = true
	}
	return true
}

// pieceOf: what bytes say, by the chapter.
func pieceOf(s string) (int, []api.Free, bool) {
	b := []byte(s)
	if len(b) < 6 {
		return 0, nil, false
	}
	next, count := int(binary.BigEndian.Uint32(b)), int(binary.BigEndian.Uint16(b[4:]))
	b = b[6:]
	if len(b) != 12*count {
		return 0, nil, false
	}
	var l []api.Free
	for range count {
		l = append(l, page(int(binary.BigEndian.Uint64(b)), int(binary.BigEndian.Uint32(b[8:]))))
		b = b[12:]
	}
	if !rightPiece(next, l) {
		return 0, nil, false
	}
	return next, l, true
}

// checkPiece: Encode of these, and that Decode reads what it gives.
func checkPiece(t *testing.T, next int, l []api.Free) {
	t.Helper()
	held := slices.Clone(l)
	s, e := free.Encode(next, l)
	if !slices.Equal(l, held) {
		t.Fatalf("Encode changed its list: %v", l)
	}
	if !rightPiece(next, l) {
		if s != "" || e != api.ErrForm {
			t.Fatalf("Encode(%d, %v) = %x, error %d, but it may not be", next, l, s, e)
		}
		return
	}
	if want := pieceText(next, l); s != want || e != api.OK {
		t.Fatalf("Encode(%d, %v) = %x, error %d, not %x", next, l, s, e, want)
	}
	if len(s) > room {
		t.Fatalf("a piece has %d bytes", len(s))
	}
	checkBytes(t, s)
}

// checkBytes: Decode of these, and that Encode gives what it reads.
func checkBytes(t *testing.T, s string) {
	t.Helper()
	next, l, ok := pieceOf(s)
	gotNext, got, e := free.Decode(s)
	if !ok {
		if gotNext != 0 || len(got) != 0 || e != api.ErrForm {
			t.Fatalf("Decode(%x) = %d, %v, error %d, but it is no piece", s, gotNext, got, e)
		}
		return
	}
	if gotNext != next || !slices.Equal(got, l) || e != api.OK {
		t.Fatalf("Decode(%x) = %d, %v, error %d, not %d, %v", s, gotNext, got, e, next, l)
	}
	if again, e := free.Encode(gotNext, got); again != s || e != api.OK {
		t.Fatalf("Encode of what Decode(%x) reads = %x, error %d", s, again, e)
	}
}

func noPiece(t *testing.T, s string) {
	t.Helper()
	if _, _, ok := pieceOf(s); ok {
		t.Fatalf("%x is a piece", s)
	}
	checkBytes(t, s)
}

// some: so many free pages in order, of transactions with two or three pages each, one of them 0 and, if there are four or more, one the greatest.
func some(n int) []api.Free {
	var l []api.Free
	for i := range n {
		l = append(l, page(i/3*17, (i*200+n)%511+1))
	}
	if n > 3 {
		l[n-1].Txn = greatest
	}
	return inOrder(l)
}

func TestPieces(t *testing.T) {
	for n, want := range map[int]int{
		math.MinInt: 0, -greatest: 0, -41: 0, -40: 0, -2: 0, -1: 0, 0: 0,
		1: 1, 2: 1, 39: 1, 40: 1, 41: 2, 79: 2, 80: 2, 81: 3, 120: 3, 121: 4, 510: 13, 511: 13, 520: 13, 521: 14,
		math.MaxInt: math.MaxInt/40 + 1, math.MaxInt - 1: math.MaxInt/40 + 1, math.MaxInt / 40 * 40: math.MaxInt / 40, math.MaxInt/40*40 + 1: math.MaxInt/40 + 1,
	} {
		if got := free.Pieces(n); got != want {
			t.Errorf("Pieces(%d) = %d, not %d", n, got, want)
		}
	}
}

func TestPiecesOfEachCount(t *testing.T) {
	pieces, left := 0, 0 // so many more fit in the last one
	for n := range 5000 {
		if n > 0 && left == 0 {
			pieces, left = pieces+1, fits
		}
		if got := free.Pieces(n); got != pieces {
			t.Fatalf("Pieces(%d) = %d, not %d", n, got, pieces)
		}
		left = max(0, left-1)
	}
}

func TestFits(t *testing.T) {
	if free.Fits != fits {
		t.Error(free.Fits)
	}
}

func TestEncodeLaysAsTheWordsSay(t *testing.T) {
	for _, c := range []struct {
		next int
		l    []api.Free
		want string
	}{
		{0, nil, "\x00\x00\x00\x00\x00\x00"},
		{0, []api.Free{}, "\x00\x00\x00\x00\x00\x00"},
		{6, nil, "\x00\x00\x00\x06\x00\x00"},
		{511, []api.Free{page(0, 1)}, "\x00\x00\x01\xff\x00\x01\x00\x00\x00\x00\x00\x00\x00\x00\x00\x00\x00\x01"},
		{1, []api.Free{page(greatest, 511)}, "\x00\x00\x00\x01\x00\x01\x00\x00\x01\x00\x00\x00\x00\x00\x00\x00\x01\xff"},
		{258, []api.Free{page(5, 9), page(7, 3)}, "\x00\x00\x01\x02\x00\x02\x00\x00\x00\x00\x00\x00\x00\x05\x00\x00\x00\x09\x00\x00\x00\x00\x00\x00\x00\x07\x00\x00\x00\x03"},
		{9, []api.Free{page(5, 9)}, "\x00\x00\x00\x09\x00\x01\x00\x00\x00\x00\x00\x00\x00\x05\x00\x00\x00\x09"},
	} {
		if s, e := free.Encode(c.next, c.l); s != c.want || e != api.OK {
			t.Errorf("Encode(%d, %v) = %x, error %d, not %x", c.next, c.l, s, e, c.want)
		}
		if next, l, e := free.Decode(c.want); next != c.next || !slices.Equal(l, c.l) || e != api.OK {
			t.Errorf("Decode(%x) = %d, %v, error %d", c.want, next, l, e)
		}
	}
}

func TestEncodeOfEachNextPage(t *testing.T) {
	for _, l := range [][]api.Free{nil, some(1), some(3), some(fits)} {
		for next := -600; next <= 1100; next++ {
			checkPiece(t, next, l)
		}
		for _, next := range noPages {
			checkPiece(t, next, l)
		}
	}
}

func TestEncodeOfEachCount(t *testing.T) {
	for n := range 512 {
		if rightPiece(0, some(n)) != (n <= 40) {
			t.Fatalf("%d free pages", n)
		}
		for _, next := range []int{0, 1, last, 512} {
			checkPiece(t, next, some(n))
		}
	}
	checkPiece(t, 0, make([]api.Free, 1<<17))
}

func TestEncodeOfEachPage(t *testing.T) {
	for no := -2; no <= 520; no++ {
		checkPiece(t, 0, []api.Free{page(3, no)})
		checkPiece(t, last, []api.Free{page(0, 7), page(3, no)})
	}
	for _, txn := range append(slices.Clone(someTxns), noTxns...) {
		checkPiece(t, 0, []api.Free{page(txn, 1)})
		checkPiece(t, 0, []api.Free{page(0, 2), page(txn, 1)})
		checkPiece(t, 0, []api.Free{page(txn, 1), page(greatest, 2)})
	}
}

// twoOf: pairs of free pages, alike, of one transaction, with one page, and apart.
func twoOf() [][2]api.Free {
	var pairs [][2]api.Free
	all := []api.Free{}
	for _, txn := range []int{0, 1, 255, 256, greatest} {
		for _, no := range []int{1, 2, 255, 256, last} {
			all = append(all, page(txn, no))
		}
	}
	for _, a := range all {
		for _, b := range all {
			pairs = append(pairs, [2]api.Free{a, b})
		}
	}
	return pairs
}

func TestOrderOfTwo(t *testing.T) {
	for _, p := range twoOf() {
		checkPiece(t, 0, p[:])
		checkBytes(t, pieceText(0, p[:]))
	}
}

func TestOrderAtEachPlace(t *testing.T) {
	for _, n := range []int{2, 3, 5, 20, fits} {
		l := some(n)
		for i := range l {
			for j := range l {
				swapped := slices.Clone(l)
				swapped[i], swapped[j] = swapped[j], swapped[i]
				checkPiece(t, 0, swapped)
				checkBytes(t, pieceText(0, swapped))
				if i != j {
					noPiece(t, pieceText(0, swapped))
				}
			}
		}
	}
}

// The same page again: with its own transaction, and with that of the place where it stands again.
func TestPageTwiceAtEachPlace(t *testing.T) {
	for _, n := range []int{2, 3, 5, 20, fits} {
		l := some(n)
		for i := range l {
			for j := range l {
				if i == j {
					continue
				}
				twice := slices.Clone(l)
				twice[j].Page = twice[i].Page
				twice = inOrder(twice)
				checkPiece(t, 0, twice)
				noPiece(t, pieceText(0, twice))
				twice[j] = twice[i]
				twice = inOrder(twice)
				checkPiece(t, 0, twice)
				noPiece(t, pieceText(0, twice))
			}
		}
	}
}

func TestWhatMayNotBeAtEachPlace(t *testing.T) {
	for _, n := range []int{1, 2, 5, fits} {
		for i := range n {
			for _, f := range oddPages() {
				l := some(n)
				l[i] = f
				checkPiece(t, 0, l)
				checkBytes(t, pieceText(0, l))
			}
		}
	}
}

func TestDecodeOfBytesCutAnywhere(t *testing.T) {
	for _, n := range []int{0, 1, 2, 3, 39, fits} {
		s := pieceText(7, some(n))
		checkBytes(t, s)
		for i := range s {
			noPiece(t, s[:i])
			if i > 0 {
				noPiece(t, s[i:])
			}
			noPiece(t, s[:i]+s[i+1:])
		}
	}
	noPiece(t, "")
}

func TestDecodeOfBytesTooMany(t *testing.T) {
	for _, n := range []int{0, 1, 2, 3, 39, fits} {
		s := pieceText(0, some(n))
		for _, more := range []string{"\x00", "\x01", "\xff", "x", "\x00\x00", s, string(make([]byte, 11)), string(make([]byte, 12)), string(make([]byte, 1<<20))} {
			noPiece(t, s+more)
			noPiece(t, more+s)
		}
	}
}

func TestDecodeOfEachCount(t *testing.T) {
	for _, n := range []int{0, 1, 2, fits, fits + 1, 511} {
		l := some(n)
		for count := range 600 {
			s := laid(0, count, l)
			if count == n && n <= fits {
				checkBytes(t, s)
			} else {
				noPiece(t, s)
			}
		}
	}
	for count := 600; count < 1<<16; count++ {
		noPiece(t, laid(0, count, nil))
	}
	// What follows fits the count, but both are too many.
	for n := fits + 1; n <= 511; n++ {
		noPiece(t, pieceText(0, some(n)))
	}
	noPiece(t, pieceText(0, make([]api.Free, 1<<16-1)))
	noPiece(t, pieceText(0, make([]api.Free, 1<<16)))
}

func TestDecodeOfNextPages(t *testing.T) {
	for _, l := range [][]api.Free{nil, some(1), some(fits)} {
		for next := range 2000 {
			checkBytes(t, pieceText(next, l))
		}
		for _, next := range []int{512, 513, 1 << 16, 1<<16 + 1, 1 << 24, 1<<31 - 1, 1 << 31, 1<<31 + 1, 1<<32 - 1, 1<<32 - 511} {
			noPiece(t, pieceText(next, l))
		}
	}
}

func TestDecodeOfGreatNumbers(t *testing.T) {
	for _, l := range [][]api.Free{some(1), some(3), some(fits)} {
		for i := range l {
			at := 6 + 12*i
			s := pieceText(0, l)
			for _, txn := range []uint64{greatest + 1, greatest + 2, 1 << 41, 1 << 48, 1 << 62, 1<<63 - 1, 1 << 63, 1<<63 + 1, 1<<63 + greatest, math.MaxUint64 - 1, math.MaxUint64} {
				noPiece(t, s[:at]+string(binary.BigEndian.AppendUint64(nil, txn))+s[at+8:])
			}
			for _, no := range []uint32{0, 512, 513, 1 << 16, 1<<16 + 1, 1 << 24, 1<<31 - 1, 1 << 31, 1<<31 + 1, math.MaxUint32} {
				noPiece(t, s[:at+8]+string(binary.BigEndian.AppendUint32(nil, no))+s[at+12:])
			}
		}
	}
}

func TestBytesChanged(t *testing.T) {
	for _, n := range []int{0, 1, 2, 5, fits} {
		s := []byte(pieceText(3, some(n)))
		for i := range s {
			was := s[i]
			for b := range 256 {
				if n < fits || bits.OnesCount8(was^byte(b)) == 1 {
					s[i] = byte(b)
					checkBytes(t, string(s))
				}
			}
			s[i] = was
		}
	}
}

func TestDecodeIsNewMemory(t *testing.T) {
	for _, n := range []int{1, 5, fits} {
		s := pieceText(9, some(n))
		_, first, _ := free.Decode(s)
		_, second, _ := free.Decode(s)
		first = first[:cap(first)]
		for i := range first {
			first[i] = page(1000+i, 1)
		}
		if !slices.Equal(second, some(n)) {
			t.Errorf("another answer was changed: %v", second)
		}
	}
}

// The spare room of what is handed in is no one's to use.
func TestEncodeLeavesSpareRoom(t *testing.T) {
	for _, n := range []int{0, 1, fits, fits + 1} {
		l := some(n + 20)
		held := slices.Clone(l)
		free.Encode(0, l[:n])
		if !slices.Equal(l, held) {
			t.Errorf("Encode of %d changed what it was handed", n)
		}
	}
}

func TestSomePieces(t *testing.T) {
	r := rand.New(rand.NewSource(88))
	for range 5000 {
		l := make([]api.Free, r.Intn(fits+3))
		for i := range l {
			l[i] = page(r.Intn(1<<r.Intn(41)+1), r.Intn(last)+1)
		}
		if r.Intn(10) > 0 {
			l = inOrder(l)
		}
		if r.Intn(10) > 0 {
			seen := map[int]bool{}
			l = slices.DeleteFunc(l, func(f api.Free) bool {
				was := seen[f.Page]
				seen[f.Page] = true
				return was
			})
		}
		checkPiece(t, r.Intn(520)-4, l)
		checkBytes(t, pieceText(r.Intn(600), l))
	}
}

// A list's pages, cut into as many pieces as Pieces says, come back whole.
func TestListByPieces(t *testing.T) {
	for name, l := range orders() {
		all := list(t, l...).All()
		n := free.Pieces(len(all))
		again := free.New()
		for i := range n {
			part := all[i*fits : min(len(all), (i+1)*fits)]
			s, e := free.Encode((i+1)%n, part)
			if e != api.OK || len(s) > room {
				t.Fatalf("%s: piece %d: %d bytes, error %d", name, i, len(s), e)
			}
			next, got, e := free.Decode(s)
			if next != (i+1)%n || e != api.OK {
				t.Fatalf("%s: piece %d: next %d, error %d", name, i, next, e)
			}
			for _, f := range got {
				add(t, again, f, api.OK)
			}
		}
		is(t, again, inOrder(l)...)
	}
}

func FuzzDecode(f *testing.F) {
	for _, n := range []int{0, 1, 2, 3, fits, fits + 1} {
		f.Add([]byte(pieceText(n, some(n))))
	}
	f.Add([]byte{})
	f.Add([]byte(pieceText(512, nil)))
	f.Add([]byte(pieceText(0, []api.Free{page(1, 5), page(2, 5)})))
	f.Fuzz(func(t *testing.T, b []byte) {
		checkBytes(t, string(b))
		if _, l, ok := pieceOf(string(b)); ok {
			x := free.New()
			for _, f := range l {
				add(t, x, f, api.OK)
			}
			is(t, x, l...)
		}
	})
}
