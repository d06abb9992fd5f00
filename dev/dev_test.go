package dev_test

import (
	"math"
	"math/rand"
	"slices"
	"strconv"
	"strings"
	"testing"

	"rollbook/api"
	"rollbook/dev"
)

// full: a sector's bytes, all the same.
func full(b byte) string {
	return strings.Repeat(string([]byte{b}), 128)
}

// numbered: a sector's bytes that no other number's are, with bytes of all kinds.
func numbered(n int) string {
	b := make([]byte, 128)
	for i := range b {
		b[i] = byte(n*131 + i*7)
	}
	copy(b, strconv.Itoa(n)+"\x00\xff")
	return string(b)
}

func made(t *testing.T, sectors int) *dev.Dev {
	t.Helper()
	d, e := dev.New(sectors)
	if d == nil || e != api.OK {
		t.Fatalf("New(%d): error %d", sectors, e)
	}
	return d
}

func must(t *testing.T, what string, e, want api.Errno) {
	t.Helper()
	if e != want {
		t.Fatalf("%s: error %d, not %d", what, e, want)
	}
}

func write(t *testing.T, d *dev.Dev, i int, s string) {
	t.Helper()
	must(t, "Write", d.Write(i, s), api.OK)
}

// offAndOn: the power goes, and is back.
func offAndOn(t *testing.T, d *dev.Dev, picks ...int) {
	t.Helper()
	must(t, "Cut", d.Cut(), api.OK)
	must(t, "Start", d.Start(picks), api.OK)
}

// reads: that a sector reads so.
func reads(t *testing.T, d *dev.Dev, i int, want string) {
	t.Helper()
	if s, e := d.Read(i); s != want || e != api.OK {
		t.Fatalf("Read(%d) = %.12q of %d bytes, error %d, not %.12q", i, s, len(s), e, want)
	}
}

// lasts: that this is there for good.
func lasts(t *testing.T, d *dev.Dev, i int, want string) {
	t.Helper()
	if s := d.Lasts(i); s != want {
		t.Fatalf("Lasts(%d) = %.12q of %d bytes, not %.12q", i, s, len(s), want)
	}
}

// waiting: how many writes of each sector wait.
func waiting(t *testing.T, d *dev.Dev, want ...int) {
	t.Helper()
	for i, n := range want {
		if d.Waits(i) != n {
			t.Fatalf("Waits(%d) = %d, not %d", i, d.Waits(i), n)
		}
	}
}

func counts(t *testing.T, d *dev.Dev, writes, steps int) {
	t.Helper()
	if d.Writes() != writes || d.Steps() != steps {
		t.Fatalf("%d writes and %d steps, not %d and %d", d.Writes(), d.Steps(), writes, steps)
	}
}

// state: all that calls tell of a device without changing it.
func state(d *dev.Dev) string {
	var b strings.Builder
	for i := -1; i <= d.Size(); i++ {
		s, e := d.Read(i)
		b.WriteString(strconv.Itoa(i) + " " + strconv.Quote(s) + " " + strconv.Itoa(int(e)) + " " + strconv.Quote(d.Lasts(i)) + " " + strconv.Itoa(d.Waits(i)) + "\n")
	}
	b.WriteString(strconv.FormatBool(d.On()) + " " + strconv.Itoa(d.Writes()) + " " + strconv.Itoa(d.Steps()))
	return b.String()
}

func TestExample(t *testing.T) {
	d := made(t, 2)
	write(t, d, 0, full('a'))
	write(t, d, 0, full('b'))
	write(t, d, 1, full('c'))
	offAndOn(t, d, 1, 0)
	reads(t, d, 0, full('a'))
	reads(t, d, 1, full(0))
	lasts(t, d, 0, full('a'))
	lasts(t, d, 1, full(0))
}

func TestNewRefusesSizesThatCantBe(t *testing.T) {
	for _, n := range []int{0, -1, -2, -2048, math.MinInt, 2049, 2050, 4096, math.MaxInt32, math.MaxInt} {
		if d, e := dev.New(n); d != nil || e != api.ErrArg {
			t.Errorf("New(%d) = %v, error %d", n, d, e)
		}
	}
}

func TestNewIsOnAndAllNoughts(t *testing.T) {
	for _, n := range []int{1, 2, 3, 4, 127, 128, 512, 2047, 2048} {
		d := made(t, n)
		if d.Size() != n || !d.On() {
			t.Errorf("New(%d): %d sectors, on: %v", n, d.Size(), d.On())
		}
		for i := range n {
			reads(t, d, i, full(0))
			lasts(t, d, i, full(0))
		}
		waiting(t, d, make([]int, n)...)
		counts(t, d, 0, 0)
		must(t, "Start", d.Start(nil), api.ErrBusy)
	}
}

func TestNewHasNoFuse(t *testing.T) {
	d := made(t, 1)
	for range 40 {
		write(t, d, 0, full('a'))
		must(t, "Sync", d.Sync(), api.OK)
	}
	counts(t, d, 40, 80)
}

func TestSectorsThatAreNotThere(t *testing.T) {
	for _, n := range []int{1, 3, 2048} {
		d := made(t, n)
		write(t, d, n-1, full('z'))
		for _, on := range []bool{true, false} {
			before := d.Steps()
			for _, i := range []int{-1, -2, math.MinInt, n, n + 1, 2048, 2049, math.MaxInt} {
				if s, e := d.Read(i); s != "" || e != api.ErrArg {
					t.Errorf("%d sectors, Read(%d) = %q, error %d", n, i, s, e)
				}
				if e := d.Write(i, full('x')); e != api.ErrArg {
					t.Errorf("%d sectors, Write(%d): error %d", n, i, e)
				}
				if s, k := d.Lasts(i), d.Waits(i); s != "" || k != 0 {
					t.Errorf("%d sectors, Lasts(%d) = %q, Waits %d", n, i, s, k)
				}
			}
			counts(t, d, 1, before)
			if on {
				reads(t, d, n-1, full('z'))
				must(t, "Cut", d.Cut(), api.OK)
			}
		}
	}
}

func TestWriteTakesSectorsOf128BytesAlone(t *testing.T) {
	d := made(t, 2)
	write(t, d, 1, full('a'))
	before := state(d)
	for _, n := range []int{0, 1, 127, 129, 256, 512} {
		must(t, "Write of "+strconv.Itoa(n), d.Write(0, strings.Repeat("x", n)), api.ErrArg)
		must(t, "Write of "+strconv.Itoa(n), d.Write(1, strings.Repeat("x", n)), api.ErrArg)
	}
	// 128 runes of more bytes than one are too many bytes.
	must(t, "Write of runes", d.Write(0, strings.Repeat("\u00e4", 128)), api.ErrArg)
	if state(d) != before {
		t.Errorf("a Write that fails changed %s to %s", before, state(d))
	}
	runes := strings.Repeat("\u00e4", 64)
	write(t, d, 0, runes)
	reads(t, d, 0, runes)
	must(t, "Cut", d.Cut(), api.OK)
	must(t, "Write of 127, off", d.Write(0, strings.Repeat("x", 127)), api.ErrArg)
	must(t, "Write of 129, off", d.Write(0, strings.Repeat("x", 129)), api.ErrArg)
	must(t, "Write of 128, off", d.Write(0, full('x')), api.ErrDown)
}

func TestReadIsTheLastWriteThatWaitsOrWhatLasts(t *testing.T) {
	d := made(t, 3)
	write(t, d, 1, numbered(1))
	reads(t, d, 1, numbered(1))
	reads(t, d, 0, full(0))
	reads(t, d, 2, full(0))
	lasts(t, d, 1, full(0))
	write(t, d, 1, numbered(2))
	reads(t, d, 1, numbered(2))
	waiting(t, d, 0, 2, 0)
	must(t, "Sync", d.Sync(), api.OK)
	reads(t, d, 1, numbered(2))
	lasts(t, d, 1, numbered(2))
	waiting(t, d, 0, 0, 0)
	write(t, d, 1, full(0))
	reads(t, d, 1, full(0))
	lasts(t, d, 1, numbered(2))
	waiting(t, d, 0, 1, 0)
	counts(t, d, 3, 4)
}

func TestBytesOfAllKindsAreKept(t *testing.T) {
	d := made(t, 4)
	for i := range 4 {
		var b [128]byte
		for k := range b {
			b[k] = byte(i*64 + k)
		}
		write(t, d, i, string(b[:]))
		reads(t, d, i, string(b[:]))
		must(t, "Sync", d.Sync(), api.OK)
		reads(t, d, i, string(b[:]))
		lasts(t, d, i, string(b[:]))
	}
}

func TestTheSameBytesAgainAreAWriteToo(t *testing.T) {
	d := made(t, 1)
	write(t, d, 0, full(0))
	write(t, d, 0, full(0))
	waiting(t, d, 2)
	counts(t, d, 2, 2)
}

func TestSyncLetsAllLast(t *testing.T) {
	d := made(t, 2048)
	for i := range 2048 {
		write(t, d, i, full('o'))
	}
	for i := range 2048 {
		write(t, d, i, numbered(i))
	}
	must(t, "Sync", d.Sync(), api.OK)
	for i := range 2048 {
		lasts(t, d, i, numbered(i))
		if d.Waits(i) != 0 {
			t.Fatalf("Waits(%d) = %d", i, d.Waits(i))
		}
	}
	offAndOn(t, d)
	for i := range 2048 {
		reads(t, d, i, numbered(i))
	}
	counts(t, d, 4096, 4097)
}

func TestSyncOfNothingIsAStep(t *testing.T) {
	d := made(t, 1)
	must(t, "Sync", d.Sync(), api.OK)
	must(t, "Sync", d.Sync(), api.OK)
	counts(t, d, 0, 2)
	reads(t, d, 0, full(0))
}

func TestWhatWaitsBehindASyncIsCountedAnew(t *testing.T) {
	d := made(t, 2)
	write(t, d, 0, full('a'))
	write(t, d, 0, full('b'))
	must(t, "Sync", d.Sync(), api.OK)
	write(t, d, 0, full('c'))
	write(t, d, 1, full('d'))
	waiting(t, d, 1, 1)
	lasts(t, d, 0, full('b'))
	// 2 modulo 2: nothing of what waits, and what was synced lasts.
	offAndOn(t, d, 2)
	reads(t, d, 0, full('b'))
	reads(t, d, 1, full(0))
}

func TestWhatWaitsBehindAStartIsCountedAnew(t *testing.T) {
	d := made(t, 2)
	write(t, d, 0, full('a'))
	write(t, d, 0, full('b'))
	write(t, d, 1, full('c'))
	offAndOn(t, d, 1, 1)
	waiting(t, d, 0, 0)
	lasts(t, d, 0, full('a'))
	lasts(t, d, 1, full('c'))
	write(t, d, 1, full('d'))
	waiting(t, d, 0, 1)
	// Sector 1 is the only one that waits: the first pick is its.
	offAndOn(t, d, 1, 0)
	reads(t, d, 0, full('a'))
	reads(t, d, 1, full('d'))
	offAndOn(t, d, 1)
	reads(t, d, 0, full('a'))
	reads(t, d, 1, full('d'))
	counts(t, d, 4, 4)
}

func TestStartOfADeviceThatIsOn(t *testing.T) {
	d := made(t, 2)
	write(t, d, 0, full('a'))
	before := state(d)
	for _, picks := range [][]int{nil, {}, {0}, {1}, {-1, 5}} {
		must(t, "Start", d.Start(picks), api.ErrBusy)
	}
	if state(d) != before {
		t.Errorf("a Start that fails changed %s to %s", before, state(d))
	}
	offAndOn(t, d, 1)
	must(t, "Start", d.Start([]int{0}), api.ErrBusy)
	reads(t, d, 0, full('a'))
}

// start: what each sector is behind a loss of power, when so many writes of each wait.
func start(t *testing.T, waits []int, picks []int) []int {
	t.Helper()
	d := made(t, len(waits))
	for i := range waits {
		write(t, d, i, numbered(1000*i))
	}
	must(t, "Sync", d.Sync(), api.OK)
	// The writes of the last sectors come first: the picks' order is the sectors', not theirs.
	for i := len(waits) - 1; i >= 0; i-- {
		for n := range waits[i] {
			write(t, d, i, numbered(1000*i+n+1))
		}
	}
	offAndOn(t, d, picks...)
	var last []int
	for i := range waits {
		s, e := d.Read(i)
		must(t, "Read", e, api.OK)
		if d.Lasts(i) != s || d.Waits(i) != 0 {
			t.Fatalf("sector %d: %d writes wait behind Start", i, d.Waits(i))
		}
		n := 0
		for s != numbered(1000*i+n) {
			n++
			if n > waits[i] {
				t.Fatalf("sector %d is no beginning of what waited: %.12q", i, s)
			}
		}
		last = append(last, n)
	}
	return last
}

func TestPicks(t *testing.T) {
	for _, x := range []struct {
		waits, picks, want []int
	}{
		// No picks: nothing of what waits lasts.
		{[]int{1, 2, 3}, nil, []int{0, 0, 0}},
		{[]int{1, 2, 3}, []int{}, []int{0, 0, 0}},
		// As many as sectors wait; each from 0 to what waits.
		{[]int{3, 3, 3, 3}, []int{0, 1, 2, 3}, []int{0, 1, 2, 3}},
		{[]int{3, 3, 3, 3}, []int{3, 2, 1, 0}, []int{3, 2, 1, 0}},
		// Above what waits: modulo one more than that.
		{[]int{3, 3, 3, 3}, []int{4, 5, 7, 8}, []int{0, 1, 3, 0}},
		{[]int{1, 2, 3}, []int{math.MaxInt}, []int{math.MaxInt % 2, math.MaxInt % 3, math.MaxInt % 4}},
		{[]int{1, 1}, []int{2, 3}, []int{0, 1}},
		// Below 0.
		{[]int{3, 3, 3}, []int{-1, -2, 1}, []int{0, 0, 1}},
		{[]int{1, 2, 3}, []int{-3}, []int{0, 0, 0}},
		{[]int{2, 2}, []int{math.MinInt, 2}, []int{0, 2}},
		// Fewer than sectors wait: from the first one again.
		{[]int{3, 3, 3, 3}, []int{2}, []int{2, 2, 2, 2}},
		{[]int{3, 3, 3, 3, 3}, []int{1, 3}, []int{1, 3, 1, 3, 1}},
		{[]int{4, 4, 4, 4, 4}, []int{4, 1, 2}, []int{4, 1, 2, 4, 1}},
		// More than sectors wait: the others are nobody's.
		{[]int{2, 2}, []int{1, 2, 9, 9, 9}, []int{1, 2}},
		// Sectors without writes that wait have no pick.
		{[]int{0, 2, 0, 2, 2, 0}, []int{1, 2, 0}, []int{0, 1, 0, 2, 0, 0}},
		{[]int{0, 0, 2, 0, 2}, []int{2, 1}, []int{0, 0, 2, 0, 1}},
		{[]int{2, 0, 2, 0, 2}, []int{1, 2}, []int{1, 0, 2, 0, 1}},
		// The same pick, of more and fewer writes.
		{[]int{1, 2, 3, 4, 5}, []int{4}, []int{0, 1, 0, 4, 4}},
		// Nothing waits.
		{[]int{0, 0}, []int{1, 1}, []int{0, 0}},
		{[]int{0}, nil, []int{0}},
	} {
		if got := start(t, x.waits, x.picks); !slices.Equal(got, x.want) {
			t.Errorf("waits %v, picks %v: %v, not %v", x.waits, x.picks, got, x.want)
		}
	}
}

func TestPicksFollowTheSectorsRising(t *testing.T) {
	waits, picks := make([]int, 300), make([]int, 300)
	for i := range waits {
		waits[i], picks[i] = 2, i*i%3
	}
	for range 5 {
		if got := start(t, waits, picks); !slices.Equal(got, picks) {
			t.Fatalf("%v, not %v", got, picks)
		}
	}
}

func TestStartLeavesThePicks(t *testing.T) {
	d := made(t, 3)
	for i := range 3 {
		write(t, d, i, full('a'))
	}
	room := []int{5, -1, 7, 9, 9}
	offAndOn(t, d, room[:2]...)
	must(t, "Cut", d.Cut(), api.OK)
	if !slices.Equal(room, []int{5, -1, 7, 9, 9}) {
		t.Errorf("the picks are %v", room)
	}
	room[0], room[1] = 0, 0
	must(t, "Start", d.Start(nil), api.OK)
	reads(t, d, 0, full('a'))
	reads(t, d, 1, full(0))
	reads(t, d, 2, full('a'))
}

func TestEachCallOfADeviceThatIsOff(t *testing.T) {
	d := made(t, 3)
	write(t, d, 0, full('a'))
	must(t, "Sync", d.Sync(), api.OK)
	write(t, d, 0, full('b'))
	write(t, d, 2, full('c'))
	write(t, d, 2, full('d'))
	must(t, "Cut", d.Cut(), api.OK)
	before := state(d)
	for range 2 {
		if s, e := d.Read(0); s != "" || e != api.ErrDown {
			t.Errorf("Read = %q, error %d", s, e)
		}
		must(t, "Write", d.Write(0, full('x')), api.ErrDown)
		must(t, "Sync", d.Sync(), api.ErrDown)
		must(t, "Cut", d.Cut(), api.ErrDown)
		for _, n := range []int{-1, 0, 1, 2} {
			must(t, "Fuse", d.Fuse(n), api.ErrDown)
		}
		if d.On() || d.Size() != 3 {
			t.Errorf("on: %v, %d sectors", d.On(), d.Size())
		}
		// What waits does so till Start.
		waiting(t, d, 1, 0, 2)
		lasts(t, d, 0, full('a'))
		lasts(t, d, 1, full(0))
		lasts(t, d, 2, full(0))
		counts(t, d, 4, 5)
	}
	if state(d) != before {
		t.Errorf("calls that fail changed %s to %s", before, state(d))
	}
	must(t, "Start", d.Start([]int{1, 2}), api.OK)
	if !d.On() {
		t.Error("it is off behind Start")
	}
	reads(t, d, 0, full('b'))
	reads(t, d, 2, full('d'))
	// No fuse was set while it was off; Start is no step.
	counts(t, d, 4, 5)
	write(t, d, 1, full('e'))
	must(t, "Sync", d.Sync(), api.OK)
	counts(t, d, 5, 7)
}

// fused: a device with a fuse, and how many steps are done till the power goes (at most 8).
func fused(t *testing.T, d *dev.Dev, n int, step func() api.Errno) int {
	t.Helper()
	must(t, "Fuse", d.Fuse(n), api.OK)
	for done := range 8 {
		if e := step(); e != api.OK {
			must(t, "the step", e, api.ErrDown)
			if d.On() {
				t.Fatal("it is on behind its fuse")
			}
			return done
		}
	}
	return 8
}

func TestFuses(t *testing.T) {
	for _, x := range []struct{ n, done int }{
		{math.MinInt, 8}, {-2, 8}, {-1, 8}, {0, 8}, {1, 0}, {2, 1}, {3, 2}, {7, 6}, {8, 7}, {9, 8}, {math.MaxInt, 8},
	} {
		d := made(t, 1)
		if n := fused(t, d, x.n, func() api.Errno { return d.Write(0, full('a')) }); n != x.done {
			t.Errorf("Fuse(%d): %d writes, not %d", x.n, n, x.done)
		}
		// The step in whose place the power goes counts, but isn't done.
		counts(t, d, x.done, min(x.done+1, 8))
		waiting(t, d, x.done)

		d = made(t, 1)
		if n := fused(t, d, x.n, d.Sync); n != x.done {
			t.Errorf("Fuse(%d): %d syncs, not %d", x.n, n, x.done)
		}
		counts(t, d, 0, min(x.done+1, 8))
	}
}

func TestFuseAtAWrite(t *testing.T) {
	d := made(t, 2)
	write(t, d, 0, full('a'))
	must(t, "Fuse", d.Fuse(2), api.OK)
	write(t, d, 0, full('b'))
	must(t, "Write", d.Write(0, full('c')), api.ErrDown)
	if d.On() {
		t.Fatal("it is on")
	}
	waiting(t, d, 2, 0)
	counts(t, d, 2, 3)
	must(t, "Start", d.Start([]int{2}), api.OK)
	reads(t, d, 0, full('b'))
	reads(t, d, 1, full(0))
}

func TestFuseAtASync(t *testing.T) {
	d := made(t, 2)
	write(t, d, 0, full('a'))
	must(t, "Sync", d.Sync(), api.OK)
	must(t, "Fuse", d.Fuse(3), api.OK)
	write(t, d, 0, full('b'))
	write(t, d, 1, full('c'))
	must(t, "Sync", d.Sync(), api.ErrDown)
	if d.On() {
		t.Fatal("it is on")
	}
	// Nothing of the Sync is done: what waited does so.
	waiting(t, d, 1, 1)
	lasts(t, d, 0, full('a'))
	lasts(t, d, 1, full(0))
	counts(t, d, 3, 5)
	must(t, "Start", d.Start([]int{0, 1}), api.OK)
	reads(t, d, 0, full('a'))
	reads(t, d, 1, full('c'))
}

func TestAFuseIsGoneOnceThePowerWent(t *testing.T) {
	d := made(t, 1)
	must(t, "Fuse", d.Fuse(1), api.OK)
	must(t, "Write", d.Write(0, full('a')), api.ErrDown)
	must(t, "Write", d.Write(0, full('a')), api.ErrDown)
	counts(t, d, 0, 1)
	must(t, "Start", d.Start(nil), api.OK)
	for range 5 {
		write(t, d, 0, full('b'))
	}
	// Cut takes it too.
	must(t, "Fuse", d.Fuse(1), api.OK)
	offAndOn(t, d, 5)
	reads(t, d, 0, full('b'))
	write(t, d, 0, full('c'))
	must(t, "Fuse", d.Fuse(3), api.OK)
	offAndOn(t, d, 1)
	for range 5 {
		write(t, d, 0, full('d'))
	}
	counts(t, d, 11, 12)
}

func TestTheLastFuseHolds(t *testing.T) {
	for _, x := range []struct{ first, then, done int }{
		{1, 0, 8}, {1, -1, 8}, {1, 3, 2}, {5, 1, 0}, {5, 2, 1}, {0, 2, 1}, {-1, 1, 0}, {2, 2, 1},
	} {
		d := made(t, 1)
		must(t, "Fuse", d.Fuse(x.first), api.OK)
		if n := fused(t, d, x.then, d.Sync); n != x.done {
			t.Errorf("Fuse(%d), Fuse(%d): %d syncs, not %d", x.first, x.then, n, x.done)
		}
	}
}

func TestOnlyStepsBurnAFuse(t *testing.T) {
	d := made(t, 1)
	must(t, "Fuse", d.Fuse(2), api.OK)
	for range 5 {
		reads(t, d, 0, full(0))
		must(t, "Write", d.Write(-1, full('x')), api.ErrArg)
		must(t, "Write", d.Write(1, full('x')), api.ErrArg)
		must(t, "Write", d.Write(0, "x"), api.ErrArg)
		must(t, "Start", d.Start(nil), api.ErrBusy)
		d.Size()
		d.On()
		d.Lasts(0)
		d.Waits(0)
		d.Writes()
		d.Steps()
	}
	counts(t, d, 0, 0)
	write(t, d, 0, full('a'))
	must(t, "Sync", d.Sync(), api.ErrDown)
	counts(t, d, 1, 2)
}

func TestFuseIsNoStep(t *testing.T) {
	d := made(t, 1)
	for range 3 {
		must(t, "Fuse", d.Fuse(1), api.OK)
	}
	counts(t, d, 0, 0)
	if !d.On() {
		t.Error("it is off")
	}
}

func TestWhatWasSyncedLasts(t *testing.T) {
	for pick := -2; pick < 9; pick++ {
		d := made(t, 3)
		for i := range 3 {
			write(t, d, i, full('a'))
			write(t, d, i, numbered(i))
		}
		must(t, "Sync", d.Sync(), api.OK)
		offAndOn(t, d, pick)
		write(t, d, 1, full('x'))
		offAndOn(t, d, -1)
		offAndOn(t, d, pick)
		for i := range 3 {
			reads(t, d, i, numbered(i))
			lasts(t, d, i, numbered(i))
		}
	}
}

// Of each sector any beginning may last, whatever the others do: each of these choices is had by some picks.
func TestEachChoiceOfBeginningsCanBePicked(t *testing.T) {
	waits := []int{2, 0, 1, 3}
	for a := range 3 {
		for b := range 2 {
			for c := range 4 {
				want := []int{a, 0, b, c}
				if got := start(t, waits, []int{a, b, c}); !slices.Equal(got, want) {
					t.Errorf("picks %d %d %d: %v, not %v", a, b, c, got, want)
				}
			}
		}
	}
}

func TestDevicesAreOfTheirOwn(t *testing.T) {
	a, b := made(t, 2), made(t, 2)
	write(t, a, 0, full('a'))
	must(t, "Fuse", a.Fuse(1), api.OK)
	must(t, "Sync", b.Sync(), api.OK)
	reads(t, b, 0, full(0))
	waiting(t, b, 0, 0)
	counts(t, b, 0, 1)
	must(t, "Cut", b.Cut(), api.OK)
	if !a.On() || b.On() {
		t.Error("the power of one went with the other's")
	}
}

func TestNilDevice(t *testing.T) {
	var d *dev.Dev
	for _, i := range []int{-1, 0, 1, 2048} {
		if s, e := d.Read(i); s != "" || e != api.ErrNil {
			t.Errorf("Read(%d) = %q, error %d", i, s, e)
		}
		must(t, "Write", d.Write(i, full('a')), api.ErrNil)
		must(t, "Write", d.Write(i, "a"), api.ErrNil)
		must(t, "Fuse", d.Fuse(i), api.ErrNil)
		must(t, "Start", d.Start([]int{i}), api.ErrNil)
		if d.Lasts(i) != "" || d.Waits(i) != 0 {
			t.Errorf("Lasts(%d) = %q, Waits %d", i, d.Lasts(i), d.Waits(i))
		}
	}
	must(t, "Start", d.Start(nil), api.ErrNil)
	must(t, "Sync", d.Sync(), api.ErrNil)
	must(t, "Cut", d.Cut(), api.ErrNil)
	if d.Size() != 0 || d.On() || d.Writes() != 0 || d.Steps() != 0 {
		t.Errorf("%d sectors, on: %v, %d writes, %d steps", d.Size(), d.On(), d.Writes(), d.Steps())
	}
}

// oracle is a device as the chapter tells it: one list of the writes that wait, in the order in which all came.
type oracle struct {
	lasts  []string
	list   []waitingWrite
	off    bool
	fuse   int
	writes int
	steps  int
}

type waitingWrite struct {
	sector int
	bytes  string
}

func (o *oracle) of(i int) []string {
	var all []string
	for _, w := range o.list {
		if w.sector == i {
			all = append(all, w.bytes)
		}
	}
	return all
}

func (o *oracle) read(i int) (string, api.Errno) {
	if i < 0 || i >= len(o.lasts) {
		return "", api.ErrArg
	}
	if o.off {
		return "", api.ErrDown
	}
	return append([]string{o.lasts[i]}, o.of(i)...)[len(o.of(i))], api.OK
}

// step: do, unless the power goes in its place.
func (o *oracle) step(do func()) api.Errno {
	if o.off {
		return api.ErrDown
	}
	o.steps++
	if o.fuse == 1 {
		o.off, o.fuse = true, 0
		return api.ErrDown
	}
	if o.fuse > 1 {
		o.fuse--
	}
	do()
	return api.OK
}

func (o *oracle) write(i int, s string) api.Errno {
	if i < 0 || i >= len(o.lasts) || len(s) != 128 {
		return api.ErrArg
	}
	return o.step(func() {
		o.writes++
		o.list = append(o.list, waitingWrite{i, s})
	})
}

func (o *oracle) sync() api.Errno {
	return o.step(func() {
		for _, w := range o.list {
			o.lasts[w.sector] = w.bytes
		}
		o.list = nil
	})
}

func (o *oracle) setFuse(n int) api.Errno {
	if o.off {
		return api.ErrDown
	}
	o.fuse = n
	return api.OK
}

func (o *oracle) cut() api.Errno {
	if o.off {
		return api.ErrDown
	}
	o.off, o.fuse = true, 0
	return api.OK
}

func (o *oracle) start(picks []int) api.Errno {
	if !o.off {
		return api.ErrBusy
	}
	kth := 0
	for i := range o.lasts {
		all := o.of(i)
		if len(all) == 0 {
			continue
		}
		pick := 0
		if len(picks) > 0 {
			pick = picks[kth%len(picks)]
		}
		kth++
		if pick > 0 && pick%(len(all)+1) > 0 {
			o.lasts[i] = all[pick%(len(all)+1)-1]
		}
	}
	o.list, o.off = nil, false
	return api.OK
}

func sameAs(t *testing.T, d *dev.Dev, o *oracle) {
	t.Helper()
	if d.Size() != len(o.lasts) || d.On() == o.off {
		t.Fatalf("%d sectors, on: %v", d.Size(), d.On())
	}
	counts(t, d, o.writes, o.steps)
	for i := range o.lasts {
		want, wanted := o.read(i)
		if s, e := d.Read(i); s != want || e != wanted {
			t.Fatalf("Read(%d) = %.12q, error %d, not %.12q, %d", i, s, e, want, wanted)
		}
		lasts(t, d, i, o.lasts[i])
		if d.Waits(i) != len(o.of(i)) {
			t.Fatalf("Waits(%d) = %d, not %d", i, d.Waits(i), len(o.of(i)))
		}
	}
}

// play: a device and an oracle are told the same, a call for each three bytes.
func play(t *testing.T, sectors int, calls []byte) {
	d := made(t, sectors)
	o := &oracle{lasts: slices.Repeat([]string{full(0)}, sectors)}
	for n := 0; n+3 <= len(calls); n += 3 {
		a, b := int(int8(calls[n+1])), int(int8(calls[n+2]))
		switch calls[n] % 10 {
		case 0:
			s := strings.Repeat("x", 127+b&3)
			must(t, "Write", d.Write(a, s), o.write(a, s))
		case 1:
			must(t, "Sync", d.Sync(), o.sync())
		case 2:
			must(t, "Fuse", d.Fuse(a/8), o.setFuse(a/8))
		case 3:
			must(t, "Cut", d.Cut(), o.cut())
		case 4:
			picks := []int{a, b, b - a, a * b, a + 1}[:(a+b)&3]
			must(t, "Start", d.Start(picks), o.start(picks))
		case 5:
			must(t, "Start", d.Start(nil), o.start(nil))
		default:
			i := int(calls[n+1]) % sectors
			must(t, "Write", d.Write(i, numbered(n+b)), o.write(i, numbered(n+b)))
		}
		sameAs(t, d, o)
	}
}

func TestCallsOfAllKinds(t *testing.T) {
	for seed := range int64(300) {
		r := rand.New(rand.NewSource(seed))
		calls := make([]byte, 300)
		r.Read(calls)
		play(t, 1+r.Intn(9), calls)
	}
}

func TestTheSameCallsTellTheSame(t *testing.T) {
	tell := func() string {
		d := made(t, 60)
		for n := range 240 {
			write(t, d, n*37%60, numbered(n))
		}
		offAndOn(t, d, 3, 1, 4, 1, 5, 9, 2)
		return state(d)
	}
	first := tell()
	for range 20 {
		if tell() != first {
			t.Fatal("the same calls told something else")
		}
	}
}

func FuzzCalls(f *testing.F) {
	f.Add(2, []byte{6, 0, 1, 6, 0, 2, 6, 1, 3, 3, 0, 0, 4, 1, 0})
	f.Add(1, []byte{2, 16, 0, 6, 0, 0, 1, 0, 0, 5, 0, 0, 6, 0, 0})
	f.Fuzz(func(t *testing.T, sectors int, calls []byte) {
		if sectors < 1 || sectors > 2048 {
			if d, e := dev.New(sectors); d != nil || e != api.ErrArg {
				t.Errorf("New(%d): error %d", sectors, e)
			}
			return
		}
		play(t, min(sectors, 20), calls[:min(len(calls), 600)])
	})
}
