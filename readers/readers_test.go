package readers_test

import (
	"fmt"
	"math"
	"math/rand"
	"slices"
	"sort"
	"strings"
	"testing"

	"rollbook/api"
	"rollbook/readers"
)

const (
	greatest = 1 << 40 // the greatest transaction
	free     = -1      // in a list of slots: nobody reads
)

// noSlots are numbers that no slot has.
var noSlots = []int{-1, 4, -2, -4, 5, 8, 256, -256, 1 << 32, -1 << 32, 1<<32 + 1, math.MinInt, math.MinInt + 1, math.MaxInt}

// noTxns are numbers that no transaction has.
var noTxns = []int{-1, greatest + 1, -2, -5, -greatest, greatest + 2, 2 * greatest, math.MinInt, math.MaxInt}

// shown is a list of slots as text.
func shown(slots []int) string {
	return strings.ReplaceAll(fmt.Sprint(slots), "-1", "free")
}

// readOf: the transactions that are read, rising.
func readOf(slots []int) []int {
	var txns []int
	for _, txn := range slots {
		if txn != free {
			txns = append(txns, txn)
		}
	}
	sort.Ints(txns)
	return txns
}

// nows are numbers below, at and above all that is read, and some that no transaction has.
func nows(slots []int) []int {
	all := []int{math.MinInt, -greatest, -2, -1, 0, 1, 4, 7, greatest, greatest + 1, math.MaxInt}
	for _, txn := range readOf(slots) {
		all = append(all, txn-1, txn, txn+1)
	}
	return all
}

// oldest: the least, by the first of a list that rises.
func oldest(slots []int, now int) int {
	if txns := readOf(slots); len(txns) > 0 && txns[0] < now {
		return txns[0]
	}
	return now
}

// fault: what a table tells otherwise than it must with these slots; nothing, if it's right.
func fault(x *readers.Table, slots []int) string {
	for i, want := range slots {
		txn, ok := x.Reads(i)
		if want == free && (txn != 0 || ok) || want != free && (txn != want || !ok) {
			return fmt.Sprintf("Reads(%d) = %d, %v with slots %s", i, txn, ok, shown(slots))
		}
	}
	for _, i := range noSlots {
		if txn, ok := x.Reads(i); txn != 0 || ok {
			return fmt.Sprintf("Reads(%d) = %d, %v, but there is no such slot", i, txn, ok)
		}
	}
	if got := x.Live(); !slices.Equal(got, readOf(slots)) {
		return fmt.Sprintf("Live() = %v with slots %s", got, shown(slots))
	}
	for _, now := range nows(slots) {
		if got, want := x.Oldest(now), oldest(slots, now); got != want {
			return fmt.Sprintf("Oldest(%d) = %d, not %d with slots %s", now, got, want, shown(slots))
		}
	}
	return ""
}

// is: that a table has these four slots, by all calls that only ask.
func is(t *testing.T, x *readers.Table, slots ...int) {
	t.Helper()
	if s := fault(x, slots); s != "" {
		t.Fatal(s)
	}
}

func enter(t *testing.T, x *readers.Table, txn, want int) {
	t.Helper()
	if slot, e := x.Enter(txn); slot != want || e != api.OK {
		t.Fatalf("Enter(%d) = %d, error %d, not slot %d", txn, slot, e, want)
	}
}

func noEnter(t *testing.T, x *readers.Table, txn int, want api.Errno) {
	t.Helper()
	if slot, e := x.Enter(txn); slot != 0 || e != want {
		t.Fatalf("Enter(%d) = %d, error %d, not 0, error %d", txn, slot, e, want)
	}
}

func leave(t *testing.T, x *readers.Table, slot int, want api.Errno) {
	t.Helper()
	if e := x.Leave(slot); e != want {
		t.Fatalf("Leave(%d): error %d, not %d", slot, e, want)
	}
}

func clears(t *testing.T, x *readers.Table, want int) {
	t.Helper()
	if n := x.Clear(); n != want {
		t.Fatalf("Clear() = %d, not %d", n, want)
	}
}

// table: one with these four slots, had by coming and leaving.
func table(t *testing.T, slots ...int) *readers.Table {
	t.Helper()
	x := readers.New()
	for i, txn := range slots {
		enter(t, x, max(txn, 0), i)
	}
	for i, txn := range slots {
		if txn == free {
			leave(t, x, i, api.OK)
		}
	}
	is(t, x, slots...)
	return x
}

// fillings: all lists of four slots of these kinds.
func fillings(kinds ...int) [][]int {
	all := [][]int{nil}
	for range 4 {
		var longer [][]int
		for _, slots := range all {
			for _, kind := range kinds {
				longer = append(longer, append(slices.Clone(slots), kind))
			}
		}
		all = longer
	}
	return all
}

func TestExample(t *testing.T) {
	x := readers.New()
	enter(t, x, 5, 0)
	enter(t, x, 3, 1)
	if n := x.Oldest(9); n != 3 {
		t.Fatal(n)
	}
	leave(t, x, 1, api.OK)
	if n := x.Oldest(9); n != 5 {
		t.Fatal(n)
	}
}

func TestNewIsFree(t *testing.T) {
	x := readers.New()
	if x == nil {
		t.Fatal("nobody is there")
	}
	is(t, x, free, free, free, free)
	clears(t, x, 0)
	for slot := range 4 {
		leave(t, x, slot, api.ErrNone)
	}
	is(t, x, free, free, free, free)
}

func TestEnterOfAllThatMayBe(t *testing.T) {
	for _, txn := range []int{0, 1, 2, 3, 255, 256, 1 << 16, 1<<31 - 1, 1 << 31, 1 << 32, greatest - 1, greatest} {
		x := readers.New()
		for slot := range 4 {
			enter(t, x, txn, slot)
		}
		is(t, x, txn, txn, txn, txn)
	}
}

func TestEnterRefusesWhatIsNoTransaction(t *testing.T) {
	for _, slots := range fillings(free, 0, greatest) {
		x := table(t, slots...)
		for _, txn := range noTxns {
			noEnter(t, x, txn, api.ErrArg) // in a full table too
			is(t, x, slots...)
		}
	}
}

func TestEnterOfAFullTable(t *testing.T) {
	x := table(t, 5, 3, 5, 9)
	for _, txn := range []int{0, 1, 3, 5, 9, 10, greatest} {
		noEnter(t, x, txn, api.ErrFull)
		is(t, x, 5, 3, 5, 9)
	}
	noEnter(t, x, -1, api.ErrArg)
	noEnter(t, x, greatest+1, api.ErrArg)
	is(t, x, 5, 3, 5, 9)
	leave(t, x, 2, api.OK)
	enter(t, x, 8, 2)
	noEnter(t, x, 8, api.ErrFull)
	is(t, x, 5, 3, 8, 9)
}

func TestEnterTakesTheLeastFreeSlot(t *testing.T) {
	x := table(t, 10, 11, 12, 13)
	slots := []int{10, 11, 12, 13}
	for i, slot := range []int{0, 1, 2, 3, 3, 2, 1, 0, 2, 0, 3, 1} {
		leave(t, x, slot, api.OK)
		enter(t, x, 20+i, slot)
		slots[slot] = 20 + i
		is(t, x, slots...)
	}
}

func TestEnterTakesTheLeastFreeSlotWhoeverLeftLast(t *testing.T) {
	for first := range 4 {
		for second := range 4 {
			if first == second {
				continue
			}
			x := table(t, 10, 11, 12, 13)
			leave(t, x, first, api.OK)
			leave(t, x, second, api.OK)
			enter(t, x, 20, min(first, second))
			enter(t, x, 21, max(first, second))
			noEnter(t, x, 22, api.ErrFull)
			slots := []int{10, 11, 12, 13}
			slots[min(first, second)], slots[max(first, second)] = 20, 21
			is(t, x, slots...)
		}
	}
}

func TestTwoReadersOfOneTransaction(t *testing.T) {
	x := table(t, 7, 7, 4, free)
	leave(t, x, 0, api.OK)
	is(t, x, free, 7, 4, free)
	leave(t, x, 2, api.OK)
	is(t, x, free, 7, free, free)
	leave(t, x, 0, api.ErrNone)
	leave(t, x, 1, api.OK)
	is(t, x, free, free, free, free)
}

func TestReaderOfTransactionNought(t *testing.T) {
	x := readers.New()
	enter(t, x, 0, 0)
	is(t, x, 0, free, free, free)
	enter(t, x, 6, 1)
	enter(t, x, 0, 2)
	is(t, x, 0, 6, 0, free)
	leave(t, x, 0, api.OK)
	leave(t, x, 0, api.ErrNone)
	is(t, x, free, 6, 0, free)
	clears(t, x, 2)
	clears(t, x, 0)
	enter(t, x, 0, 0)
	clears(t, x, 1)
	for slot := range 4 {
		enter(t, x, 0, slot)
	}
	noEnter(t, x, 0, api.ErrFull)
	is(t, x, 0, 0, 0, 0)
	clears(t, x, 4)
}

func TestLeave(t *testing.T) {
	x := table(t, 1, 2, 3, 4)
	for _, slot := range noSlots {
		leave(t, x, slot, api.ErrArg)
		is(t, x, 1, 2, 3, 4)
	}
	leave(t, x, 0, api.OK)
	is(t, x, free, 2, 3, 4)
	leave(t, x, 3, api.OK)
	is(t, x, free, 2, 3, free)
	leave(t, x, 0, api.ErrNone)
	leave(t, x, 3, api.ErrNone)
	leave(t, x, 3, api.ErrNone)
	leave(t, x, 4, api.ErrArg)
	leave(t, x, -1, api.ErrArg)
	is(t, x, free, 2, 3, free)
}

func TestReads(t *testing.T) {
	x := table(t, 8, free, 0, greatest)
	want := map[int]int{0: 8, 2: 0, 3: greatest}
	for _, slot := range append([]int{0, 1, 2, 3}, noSlots...) {
		txn, there := want[slot]
		if n, ok := x.Reads(slot); n != txn || ok != there {
			t.Errorf("Reads(%d) = %d, %v", slot, n, ok)
		}
	}
	leave(t, x, 3, api.OK)
	leave(t, x, 3, api.ErrNone)
	if n, ok := x.Reads(3); n != 0 || ok {
		t.Errorf("Reads(3) of a slot that was left twice = %d, %v", n, ok)
	}
}

func TestOldest(t *testing.T) {
	for _, slots := range [][]int{{3, 5, 5, 9}, {5, 3, 9, free}, {9, free, 3, 5}, {free, 9, free, 3}, {3, 3, 3, 3}, {free, 3, free, free}} {
		x := table(t, slots...)
		for now, want := range map[int]int{math.MinInt: math.MinInt, -1: -1, 0: 0, 2: 2, 3: 3, 4: 3, 5: 3, 9: 3, 10: 3, greatest: 3, math.MaxInt: 3} {
			if n := x.Oldest(now); n != want {
				t.Errorf("Oldest(%d) = %d, not %d with slots %s", now, n, want, shown(slots))
			}
		}
	}
}

func TestOldestWithoutReaders(t *testing.T) {
	x := readers.New()
	left := table(t, free, free, free, free)
	for _, now := range []int{math.MinInt, -greatest, -1, 0, 1, 7, greatest, greatest + 1, math.MaxInt} {
		if n := x.Oldest(now); n != now {
			t.Errorf("Oldest(%d) = %d of a new table", now, n)
		}
		if n := left.Oldest(now); n != now {
			t.Errorf("Oldest(%d) = %d of a table that all have left", now, n)
		}
	}
}

func TestLiveRises(t *testing.T) {
	for _, c := range []struct{ slots, want []int }{
		{[]int{free, free, free, free}, nil},
		{[]int{9, 7, 5, 3}, []int{3, 5, 7, 9}},
		{[]int{3, 5, 7, 9}, []int{3, 5, 7, 9}},
		{[]int{5, 3, 5, 9}, []int{3, 5, 5, 9}},
		{[]int{5, 5, 5, 5}, []int{5, 5, 5, 5}},
		{[]int{0, greatest, 0, free}, []int{0, 0, greatest}},
		{[]int{free, 10, free, 9}, []int{9, 10}},
		{[]int{free, free, free, 4}, []int{4}},
		{[]int{1 << 32, 1 << 31, 1, 1<<32 + 1}, []int{1, 1 << 31, 1 << 32, 1<<32 + 1}},
	} {
		if got := table(t, c.slots...).Live(); !slices.Equal(got, c.want) {
			t.Errorf("Live() = %v, not %v with slots %s", got, c.want, shown(c.slots))
		}
	}
}

// What is answered is new memory: whoever has it may do with it what they want, its spare room too.
func TestLiveIsNewMemory(t *testing.T) {
	for _, slots := range [][]int{{9, 7, 5, 3}, {9, free, 5, free}, {free, free, free, 1}} {
		x := table(t, slots...)
		first, second := x.Live(), x.Live()
		first = first[:cap(first)]
		for i := range first {
			first[i] = 1000 + i
		}
		if !slices.Equal(second, readOf(slots)) {
			t.Errorf("another answer was changed: %v", second)
		}
		is(t, x, slots...)
		third := x.Live()
		clears(t, x, len(third))
		enter(t, x, 77, 0)
		if !slices.Equal(third, readOf(slots)) {
			t.Errorf("an answer was changed by a later call: %v", third)
		}
	}
}

func TestClear(t *testing.T) {
	for _, slots := range fillings(free, 0, 6) {
		x := table(t, slots...)
		clears(t, x, len(readOf(slots)))
		is(t, x, free, free, free, free)
		clears(t, x, 0)
		for slot := range 4 {
			leave(t, x, slot, api.ErrNone)
		}
		enter(t, x, 8, 0)
		is(t, x, 8, free, free, free)
		enter(t, x, 2, 1)
		enter(t, x, 4, 2)
		enter(t, x, 1, 3)
		noEnter(t, x, 1, api.ErrFull)
		is(t, x, 8, 2, 4, 1)
	}
}

func TestNil(t *testing.T) {
	var x *readers.Table
	for _, n := range append([]int{0, 1, 2, 3, 1 << 20, greatest}, append(noTxns, noSlots...)...) {
		noEnter(t, x, n, api.ErrNil)
		leave(t, x, n, api.ErrNil)
		if txn, ok := x.Reads(n); txn != 0 || ok {
			t.Errorf("Reads(%d) = %d, %v of nobody", n, txn, ok)
		}
		if got := x.Oldest(n); got != n {
			t.Errorf("Oldest(%d) = %d of nobody", n, got)
		}
	}
	if l := x.Live(); len(l) != 0 {
		t.Errorf("Live() = %v of nobody", l)
	}
	clears(t, x, 0)
}

func TestTwoTables(t *testing.T) {
	x, y := readers.New(), readers.New()
	if x == y {
		t.Fatal("two tables are one")
	}
	enter(t, x, 5, 0)
	is(t, y, free, free, free, free)
	enter(t, y, 9, 0)
	enter(t, y, 2, 1)
	is(t, x, 5, free, free, free)
	leave(t, x, 0, api.OK)
	is(t, y, 9, 2, free, free)
	clears(t, y, 2)
	enter(t, x, 6, 0)
	is(t, y, free, free, free, free)
	is(t, x, 6, free, free, free)
	readers.New().Clear()
	is(t, x, 6, free, free, free)
}

// happening is what became of one slot.
type happening struct {
	slot int
	came bool
	txn  int
}

// story is all that happened to a table, and is what its slots are told from: it keeps none itself.
type story []happening

func (s story) reads(slot int) (int, bool) {
	for i := len(s) - 1; i >= 0; i-- {
		if s[i].slot == slot {
			return s[i].txn, s[i].came
		}
	}
	return 0, false
}

func (s story) slots() []int {
	var slots []int
	for slot := range 4 {
		txn, ok := s.reads(slot)
		if !ok {
			txn = free
		}
		slots = append(slots, txn)
	}
	return slots
}

func (s *story) enter(txn int) (int, api.Errno) {
	if txn < 0 || txn > greatest {
		return 0, api.ErrArg
	}
	slot := slices.Index(s.slots(), free)
	if slot < 0 {
		return 0, api.ErrFull
	}
	*s = append(*s, happening{slot, true, txn})
	return slot, api.OK
}

func (s *story) leave(slot int) api.Errno {
	if slot < 0 || slot > 3 {
		return api.ErrArg
	}
	if _, ok := s.reads(slot); !ok {
		return api.ErrNone
	}
	*s = append(*s, happening{slot: slot})
	return api.OK
}

func (s *story) clear() int {
	left := 0
	for slot := range 4 {
		if s.leave(slot) == api.OK {
			left++
		}
	}
	return left
}

// call is one of the calls that change a table.
type call struct {
	name string
	n    int
}

func (c call) String() string {
	return fmt.Sprintf("%s(%d)", c.name, c.n)
}

// step: a call on the table and on the story; what they answer otherwise, if so.
func (s *story) step(x *readers.Table, c call) string {
	got, want := "", ""
	switch c.name {
	case "Enter":
		got, want = fmt.Sprint(x.Enter(c.n)), fmt.Sprint(s.enter(c.n))
	case "Leave":
		got, want = fmt.Sprint(x.Leave(c.n)), fmt.Sprint(s.leave(c.n))
	default:
		got, want = fmt.Sprint(x.Clear()), fmt.Sprint(s.clear())
	}
	if got != want {
		return fmt.Sprintf("%s = %s, not %s", c, got, want)
	}
	return fault(x, s.slots())
}

// play: calls, one behind the other, each answer and the table behind each held against the story.
func play(t *testing.T, calls []call) {
	t.Helper()
	x, s := readers.New(), story{}
	for i, c := range calls {
		if fault := s.step(x, c); fault != "" {
			t.Fatalf("behind %v: %s", calls[max(0, i-12):i+1], fault)
		}
	}
}

// calls: what may be called, of all kinds.
func calls() []call {
	all := []call{{"Clear", 0}}
	for _, txn := range []int{0, 1, 5, 6, greatest - 1, greatest, -1, greatest + 1} {
		all = append(all, call{"Enter", txn})
	}
	for _, slot := range []int{0, 1, 2, 3, -1, 4} {
		all = append(all, call{"Leave", slot})
	}
	return all
}

func TestEachCallOfEachTable(t *testing.T) {
	for _, slots := range fillings(free, 0, 6, greatest) {
		for _, c := range calls() {
			x, s := table(t, slots...), story{}
			for slot, txn := range slots {
				if txn != free {
					s = append(s, happening{slot, true, txn})
				}
			}
			if fault := s.step(x, c); fault != "" {
				t.Fatalf("slots %s, then %s: %s", shown(slots), c, fault)
			}
		}
	}
}

// All plays of up to six calls: each slot left and taken again in each order.
func TestAllShortPlays(t *testing.T) {
	kinds := []call{{"Enter", 0}, {"Enter", 3}, {"Leave", 0}, {"Leave", 1}, {"Leave", 2}, {"Clear", 0}}
	list := make([]call, 6)
	for n := range 6 * 6 * 6 * 6 * 6 * 6 {
		for i := range list {
			list[i] = kinds[n%6]
			n /= 6
		}
		play(t, list)
	}
}

func TestLongPlays(t *testing.T) {
	r := rand.New(rand.NewSource(7))
	all := calls()
	for range 60 {
		list := make([]call, 200)
		for i := range list {
			switch r.Intn(12) {
			case 0:
				list[i] = all[r.Intn(len(all))]
			case 1, 2, 3, 4, 5:
				list[i] = call{"Leave", r.Intn(4)}
			default:
				list[i] = call{"Enter", r.Intn(8) << r.Intn(38)}
			}
		}
		play(t, list)
	}
}

func FuzzPlays(f *testing.F) {
	f.Add([]byte{})
	f.Add([]byte{1, 3, 9, 10, 11, 12, 1, 2, 3, 4, 5, 0, 9})
	f.Add([]byte{1, 2, 3, 4, 5, 13, 14, 10, 10, 6, 7, 8, 0, 0, 1})
	all := calls()
	f.Fuzz(func(t *testing.T, b []byte) {
		var list []call
		for _, c := range b[:min(len(b), 200)] {
			if int(c) < len(all) {
				list = append(list, all[c])
			} else {
				list = append(list, call{"Enter", int(c) << (c % 32)})
			}
		}
		play(t, list)
	})
}
