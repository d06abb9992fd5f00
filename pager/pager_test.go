package pager_test

import (
	"math"
	"math/rand"
	"slices"
	"strings"
	"testing"

	"rollbook/api"
	"rollbook/dev"
	"rollbook/page"
	"rollbook/pager"
)

// limits: of files that may be formatted.
var limits = []int{4, 5, 6, 8, 100, 511, 512}

func made(t *testing.T, sectors int) *dev.Dev {
	t.Helper()
	d, e := dev.New(sectors)
	if e != api.OK {
		t.Fatalf("dev.New(%d): error %d", sectors, e)
	}
	return d
}

func must(t *testing.T, what string, e, want api.Errno) {
	t.Helper()
	if e != want {
		t.Fatalf("%s: error %d, not %d", what, e, want)
	}
}

func opened(t *testing.T, d *dev.Dev) *pager.Pager {
	t.Helper()
	p, e := pager.Open(d)
	if p == nil || e != api.OK {
		t.Fatalf("Open: pager %v, error %d", p != nil, e)
	}
	return p
}

// file: a device of so many pages with an empty file.
func file(t *testing.T, limit int) (*dev.Dev, *pager.Pager) {
	t.Helper()
	d := made(t, 4*limit)
	must(t, "Format", pager.Format(d, limit), api.OK)
	return d, opened(t, d)
}

// started: the power is back, and the file is opened again.
func started(t *testing.T, d *dev.Dev, picks ...int) *pager.Pager {
	t.Helper()
	must(t, "Start", d.Start(picks), api.OK)
	return opened(t, d)
}

func metaBytes(t *testing.T, m api.Meta) string {
	t.Helper()
	s, e := page.PackMeta(m)
	must(t, "PackMeta", e, api.OK)
	return s
}

func pageBytes(t *testing.T, x api.Page) string {
	t.Helper()
	s, e := page.Pack(x)
	must(t, "Pack", e, api.OK)
	return s
}

// lay: bytes into sectors that last.
func lay(t *testing.T, d *dev.Dev, from int, s string) {
	t.Helper()
	for i := 0; i < len(s); i += 128 {
		must(t, "dev.Write", d.Write(from+i/128, s[i:i+128]), api.OK)
	}
	must(t, "dev.Sync", d.Sync(), api.OK)
}

// noughts: a sector that nobody wrote.
func noughts() string {
	return strings.Repeat("\x00", 128)
}

// has: that a sector's bytes last, and nothing of it waits.
func has(t *testing.T, d *dev.Dev, i int, want string) {
	t.Helper()
	if d.Waits(i) != 0 || d.Lasts(i) != want {
		t.Fatalf("sector %d: %d writes wait, %.40q lasts, not %.40q", i, d.Waits(i), d.Lasts(i), want)
	}
}

func isMeta(t *testing.T, p *pager.Pager, want api.Meta) {
	t.Helper()
	if m := p.Meta(); m != want {
		t.Fatalf("Meta() = %+v, not %+v", m, want)
	}
}

func isOther(t *testing.T, p *pager.Pager, want api.Meta, there bool) {
	t.Helper()
	if m, ok := p.Other(); m != want || ok != there {
		t.Fatalf("Other() = %+v, %v, not %+v, %v", m, ok, want, there)
	}
}

func isLog(t *testing.T, p *pager.Pager, want ...int) {
	t.Helper()
	if log := p.Log(); !slices.Equal(log, want) {
		t.Fatalf("Log() = %v, not %v", log, want)
	}
}

// isPage: that Read answers it.
func isPage(t *testing.T, p *pager.Pager, want api.Page) {
	t.Helper()
	if x, e := p.Read(want.No); x != want || e != api.OK {
		t.Fatalf("Read(%d) = page %d of %d with %.20q, error %d, not %.20q", want.No, x.No, x.Txn, x.Body, e, want.Body)
	}
}

// noPage: that Read answers this error, and nothing beside it.
func noPage(t *testing.T, p *pager.Pager, no int, want api.Errno) {
	t.Helper()
	if x, e := p.Read(no); x != (api.Page{}) || e != want {
		t.Fatalf("Read(%d) = page %d of %d with %.20q, error %d, not %d", no, x.No, x.Txn, x.Body, e, want)
	}
}

// noFile: that Open answers this error, and no pager.
func noFile(t *testing.T, d *dev.Dev, want api.Errno) {
	t.Helper()
	if p, e := pager.Open(d); p != nil || e != want {
		t.Fatalf("Open: pager %v, error %d, not %d", p != nil, e, want)
	}
}

// empty: the meta of a file that was formatted.
func empty(txn, limit int) api.Meta {
	return api.Meta{Txn: txn, Pages: 1, Limit: limit}
}

func leaf(no, txn int, body string) api.Page {
	return api.Page{Kind: api.PageLeaf, No: no, Txn: txn, Body: body}
}

// still: that calls between then and now did no step.
func still(t *testing.T, d *dev.Dev, steps int) {
	t.Helper()
	if d.Steps() != steps {
		t.Fatalf("%d steps, not %d", d.Steps(), steps)
	}
}

// The chapter's example.
func TestExample(t *testing.T) {
	d, p := file(t, 4)
	isMeta(t, p, empty(1, 4))
	isOther(t, p, empty(0, 4), true)
	must(t, "Seal", p.Seal(empty(2, 4)), api.OK)
	if d.Waits(0) != 1 || d.Waits(1) != 0 || d.Steps() != 4 {
		t.Fatalf("%d and %d writes wait behind %d steps", d.Waits(0), d.Waits(1), d.Steps())
	}
	if s, _ := d.Read(0); s != metaBytes(t, empty(2, 4)) {
		t.Fatalf("sector 0 is %.40q", s)
	}
}

func TestFormatLaysTwoMetas(t *testing.T) {
	for _, limit := range limits {
		for more := range 2 {
			if 4*limit+more > 2048 {
				continue
			}
			d := made(t, 4*limit+more)
			must(t, "Format", pager.Format(d, limit), api.OK)
			has(t, d, 0, metaBytes(t, empty(0, limit)))
			has(t, d, 1, metaBytes(t, empty(1, limit)))
			for i := 2; i < d.Size(); i++ {
				has(t, d, i, noughts())
			}
			if d.Writes() != 2 || d.Steps() != 3 {
				t.Fatalf("limit %d: %d writes, %d steps", limit, d.Writes(), d.Steps())
			}
			p := opened(t, d)
			isMeta(t, p, empty(1, limit))
			isOther(t, p, empty(0, limit), true)
		}
	}
}

// What stands on a device stays, but for the metas; what waits there lasts.
func TestFormatOverOldBytes(t *testing.T) {
	d := made(t, 2048)
	old := strings.Repeat("old!", 32)
	for i := range 2048 {
		must(t, "dev.Write", d.Write(i, old), api.OK)
	}
	must(t, "Format", pager.Format(d, 4), api.OK)
	has(t, d, 0, metaBytes(t, empty(0, 4)))
	has(t, d, 1, metaBytes(t, empty(1, 4)))
	for i := 2; i < 2048; i++ {
		has(t, d, i, old)
	}
}

func TestFormatRefuses(t *testing.T) {
	for _, limit := range []int{math.MinInt, -4, -1, 0, 1, 2, 3, 513, 514, 1024, 1 << 32, math.MaxInt/4 + 2, math.MaxInt/2 + 1, math.MaxInt/2 + 5, math.MaxInt} {
		d := made(t, 2048)
		must(t, "Format", pager.Format(d, limit), api.ErrArg)
		still(t, d, 0)
		must(t, "Format of a nil device", pager.Format(nil, limit), api.ErrArg)
	}
	for _, limit := range limits {
		for _, sectors := range []int{1, 2, limit, 2 * limit, 4*limit - 4, 4*limit - 1} {
			d := made(t, sectors)
			must(t, "Format", pager.Format(d, limit), api.ErrArg)
			still(t, d, 0)
			must(t, "Cut", d.Cut(), api.OK)
			must(t, "Format of a small device that is off", pager.Format(d, limit), api.ErrArg)
		}
		must(t, "Format of a nil device", pager.Format(nil, limit), api.ErrArg)
	}
}

func TestFormatWithoutPower(t *testing.T) {
	d := made(t, 16)
	must(t, "Cut", d.Cut(), api.OK)
	must(t, "Format", pager.Format(d, 4), api.ErrDown)
	must(t, "Format", pager.Format(d, 3), api.ErrArg)
	still(t, d, 0)
}

// What of a file is there, by the step in whose place the power goes and by what lasts.
func TestFormatWithFuse(t *testing.T) {
	for fuse := 1; fuse <= 4; fuse++ {
		for pick := range 2 {
			d := made(t, 16)
			must(t, "Fuse", d.Fuse(fuse), api.OK)
			want := api.ErrDown
			if fuse == 4 {
				want = api.OK
			}
			must(t, "Format", pager.Format(d, 4), want)
			if d.Steps() != min(fuse, 3) || d.Writes() != min(fuse-1, 2) {
				t.Fatalf("fuse %d: %d steps, %d writes", fuse, d.Steps(), d.Writes())
			}
			if fuse == 4 {
				continue
			}
			must(t, "Start", d.Start([]int{pick}), api.OK)
			if fuse == 1 || pick == 0 {
				noFile(t, d, api.ErrForm)
				continue
			}
			isMeta(t, opened(t, d), empty(fuse-2, 4))
		}
	}
}

// pair: what the sectors 0 and 1 have, and what Open makes of it.
type pair struct {
	what     string
	at       [2]string
	sectors  int
	e        api.Errno
	present  api.Meta
	other    api.Meta
	hasOther bool
}

func pairs(t *testing.T) []pair {
	t.Helper()
	m := api.Meta{Txn: 7, Root: 3, Free: 2, Pages: 4, Limit: 8}
	n := api.Meta{Txn: 8, Root: 1, Free: 0, Pages: 5, Limit: 8}
	same := api.Meta{Txn: 7, Root: 1, Free: 1, Pages: 2, Limit: 8}
	wide := api.Meta{Txn: 9, Pages: 1, Limit: 9}
	small := api.Meta{Txn: 6, Pages: 2, Limit: 2}
	far := api.Meta{Txn: 1 << 40, Pages: 1, Limit: 8}
	none := api.Meta{}
	b := func(m api.Meta) string { return metaBytes(t, m) }
	turned := "\x01" + b(n)[1:]
	part := pageBytes(t, leaf(3, 7, "x"))[:128]
	return []pair{
		{"noughts", [2]string{noughts(), noughts()}, 32, api.ErrForm, none, none, false},
		{"a page's bytes", [2]string{part, part}, 32, api.ErrForm, none, none, false},
		{"bytes that were turned", [2]string{turned, turned}, 32, api.ErrForm, none, none, false},
		{"one at 0", [2]string{b(m), noughts()}, 32, api.OK, m, none, false},
		{"one at 1", [2]string{noughts(), b(m)}, 32, api.OK, m, none, false},
		{"one at 0, another that was turned", [2]string{b(m), turned}, 32, api.OK, m, none, false},
		{"one at 1, another that was turned", [2]string{turned, b(m)}, 32, api.OK, m, none, false},
		{"the greater at 0", [2]string{b(n), b(m)}, 32, api.OK, n, m, true},
		{"the greater at 1", [2]string{b(m), b(n)}, 32, api.OK, n, m, true},
		{"one number", [2]string{b(m), b(same)}, 32, api.OK, m, same, true},
		{"one number, the other way", [2]string{b(same), b(m)}, 32, api.OK, same, m, true},
		{"one meta twice", [2]string{b(m), b(m)}, 32, api.OK, m, m, true},
		{"numbers far from each other", [2]string{b(far), b(m)}, 32, api.OK, far, m, true},
		{"a quarter", [2]string{b(wide), b(m)}, 36, api.OK, wide, m, true},
		{"a quarter and a sector", [2]string{b(m), b(wide)}, 37, api.OK, wide, m, true},
		{"a sector too few", [2]string{b(wide), b(m)}, 35, api.ErrForm, none, none, false},
		{"a page too few", [2]string{b(m), b(wide)}, 32, api.ErrForm, none, none, false},
		{"a sector too few, one alone", [2]string{noughts(), b(wide)}, 35, api.ErrForm, none, none, false},
		{"the other's Limit is above", [2]string{b(m), b(api.Meta{Txn: 1, Pages: 1, Limit: 512})}, 32, api.OK, m, api.Meta{Txn: 1, Pages: 1, Limit: 512}, true},
		{"a Limit of 2", [2]string{b(small), noughts()}, 8, api.OK, small, none, false},
		{"a Limit of 2, a sector too few", [2]string{b(small), noughts()}, 7, api.ErrForm, none, none, false},
		{"the greatest Limit", [2]string{b(empty(4, 512)), b(empty(3, 512))}, 2048, api.OK, empty(4, 512), empty(3, 512), true},
		{"the greatest Limit, a sector too few", [2]string{b(empty(4, 512)), b(empty(3, 512))}, 2047, api.ErrForm, none, none, false},
	}
}

func TestOpen(t *testing.T) {
	for _, c := range pairs(t) {
		t.Run(c.what, func(t *testing.T) {
			d := made(t, c.sectors)
			lay(t, d, 0, c.at[0]+c.at[1])
			steps := d.Steps()
			p, e := pager.Open(d)
			if (p != nil) != (c.e == api.OK) || e != c.e {
				t.Fatalf("Open: pager %v, error %d, not %d", p != nil, e, c.e)
			}
			isMeta(t, p, c.present)
			isOther(t, p, c.other, c.hasOther)
			isLog(t, p)
			still(t, d, steps)
			if p == nil {
				return
			}
			must(t, "Done", p.Done(), api.ErrOrder)
			if next := empty(c.present.Txn+1, c.present.Limit); page.RightMeta(next) {
				sealedAndDone(t, d, p, next)
			}
		})
	}
}

// sealedAndDone: a meta becomes the present one, by the sector of its number.
func sealedAndDone(t *testing.T, d *dev.Dev, p *pager.Pager, m api.Meta) {
	t.Helper()
	old := p.Meta()
	before, had := p.Other()
	must(t, "Seal", p.Seal(m), api.OK)
	isMeta(t, p, old)
	isOther(t, p, before, had)
	if d.Waits(m.Txn%2) != 1 || d.Waits(1-m.Txn%2) != 0 {
		t.Fatalf("behind Seal of %d, %d and %d writes wait", m.Txn, d.Waits(0), d.Waits(1))
	}
	must(t, "Done", p.Done(), api.OK)
	has(t, d, m.Txn%2, metaBytes(t, m))
	isMeta(t, p, m)
	isOther(t, p, old, true)
	isMeta(t, opened(t, d), m)
}

func TestOpenOfNoDevice(t *testing.T) {
	noFile(t, nil, api.ErrNil)
	noFile(t, made(t, 1), api.ErrArg) // there is no sector 1
	noFile(t, made(t, 2), api.ErrForm)
	d, _ := file(t, 4)
	must(t, "Cut", d.Cut(), api.OK)
	noFile(t, d, api.ErrDown)
	isMeta(t, started(t, d), empty(1, 4))
}

// Open reads what waits, too, as Read of a device does, and what it answers isn't told by another pager.
func TestOpenBetweenSealAndDone(t *testing.T) {
	d, p := file(t, 4)
	m := api.Meta{Txn: 2, Root: 2, Free: 1, Pages: 3, Limit: 4}
	must(t, "Seal", p.Seal(m), api.OK)
	q := opened(t, d)
	isMeta(t, q, m)
	isOther(t, q, empty(1, 4), true)
	must(t, "Done of a pager that sealed none", q.Done(), api.ErrOrder)
	isMeta(t, p, empty(1, 4))
	isOther(t, p, empty(0, 4), true)
	must(t, "Done", p.Done(), api.OK)
	must(t, "Seal", q.Seal(empty(3, 4)), api.OK)
	must(t, "Done", q.Done(), api.OK)
	isMeta(t, q, empty(3, 4))
	isOther(t, q, m, true)
	isMeta(t, p, m)
	isOther(t, p, empty(1, 4), true)
}

func TestMetasOneBehindTheOther(t *testing.T) {
	d, p := file(t, 9)
	for txn := 2; txn < 30; txn++ {
		sealedAndDone(t, d, p, api.Meta{Txn: txn, Root: txn % 5, Free: txn % 4, Pages: 5 + txn%5, Limit: 9})
	}
}

func TestPages(t *testing.T) {
	for _, limit := range limits {
		d, p := file(t, limit)
		for _, no := range []int{1, 2, limit - 1} {
			noPage(t, p, no, api.ErrForm)
		}
		steps := d.Steps()
		for i, no := range []int{limit - 1, 1, 2} {
			x := api.Page{Kind: 1 + i, No: no, Txn: i, Body: strings.Repeat("\x00z\xff", 160+i)}
			must(t, "Write", p.Write(x), api.OK)
			still(t, d, steps+4*i+4)
			s := pageBytes(t, x)
			for k := range 4 {
				if r, _ := d.Read(4*no + k); r != s[128*k:128*k+128] || d.Waits(4*no+k) != 1 {
					t.Fatalf("sector %d of page %d: %.20q", k, no, r)
				}
			}
			isPage(t, p, x)
			isPage(t, opened(t, d), x)
		}
		for _, no := range []int{0, -1, limit, limit + 1, -limit, 512, 1 << 32, 1<<32 + 1, math.MaxInt, math.MinInt} {
			noPage(t, p, no, api.ErrArg)
		}
		still(t, d, steps+12)
		isLog(t, p, limit-1, 1, 2)
	}
}

// A file has so many pages as its Limit says, however many its device or its Pages are.
func TestPagesOfALargerDevice(t *testing.T) {
	d := made(t, 2048)
	must(t, "Format", pager.Format(d, 5), api.OK)
	p := opened(t, d)
	lay(t, d, 20, pageBytes(t, leaf(5, 1, "behind the file")))
	lay(t, d, 16, pageBytes(t, leaf(4, 1, "behind its Pages")))
	noPage(t, p, 5, api.ErrArg)
	isPage(t, p, leaf(4, 1, "behind its Pages"))
	must(t, "Write", p.Write(leaf(5, 1, "x")), api.ErrArg)
	must(t, "Write", p.Write(leaf(4, 1, "x")), api.OK)
	isPage(t, p, leaf(4, 1, "x"))
}

func TestPagesOfTheLeastFile(t *testing.T) {
	d := made(t, 8)
	lay(t, d, 0, metaBytes(t, empty(1, 2)))
	p := opened(t, d)
	must(t, "Write", p.Write(leaf(1, 1, "x")), api.OK)
	must(t, "Write", p.Write(leaf(2, 1, "x")), api.ErrArg)
	isPage(t, p, leaf(1, 1, "x"))
	noPage(t, p, 0, api.ErrArg)
	noPage(t, p, 2, api.ErrArg)
	must(t, "Seal", p.Seal(empty(2, 3)), api.ErrForm)
	must(t, "Seal", p.Seal(empty(2, 2)), api.OK)
}

func TestReadOfOtherBytes(t *testing.T) {
	d, p := file(t, 300)
	s := pageBytes(t, leaf(3, 7, strings.Repeat("body", 100)))
	lay(t, d, 12, s)
	isPage(t, p, leaf(3, 7, strings.Repeat("body", 100)))
	lay(t, d, 8, s) // page 2 has another page's bytes
	noPage(t, p, 2, api.ErrForm)
	lay(t, d, 1036, s) // page 259, one of its low byte
	noPage(t, p, 259, api.ErrForm)
	lay(t, d, 16, s[128:]+s[:128])
	noPage(t, p, 4, api.ErrForm)
	for k := range 4 {
		for _, at := range []int{0, 60, 127} {
			b := []byte(s[128*k : 128*k+128])
			b[at] ^= 1
			lay(t, d, 12+k, string(b))
			noPage(t, p, 3, api.ErrForm)
		}
		lay(t, d, 12+k, noughts())
		noPage(t, p, 3, api.ErrForm)
		lay(t, d, 12+k, s[128*k:128*k+128])
		isPage(t, p, leaf(3, 7, strings.Repeat("body", 100)))
	}
	lay(t, d, 12, metaBytes(t, empty(1, 300)))
	noPage(t, p, 3, api.ErrForm)
}

func TestWriteRefuses(t *testing.T) {
	d, p := file(t, 8)
	fits := leaf(3, 2, "x")
	cases := []struct {
		what string
		turn func(x *api.Page)
		e    api.Errno
	}{
		{"no Kind", func(x *api.Page) { x.Kind = 0 }, api.ErrForm},
		{"Kind 5", func(x *api.Page) { x.Kind = 5 }, api.ErrForm},
		{"No 0", func(x *api.Page) { x.No = 0 }, api.ErrForm},
		{"No -1", func(x *api.Page) { x.No = -1 }, api.ErrForm},
		{"No Limit", func(x *api.Page) { x.No = 8 }, api.ErrArg},
		{"No Limit + 1", func(x *api.Page) { x.No = 9 }, api.ErrArg},
		{"No 511", func(x *api.Page) { x.No = 511 }, api.ErrArg},
		{"No 512", func(x *api.Page) { x.No = 512 }, api.ErrForm},
		{"No 2^32 + 3", func(x *api.Page) { x.No = 1<<32 + 3 }, api.ErrForm},
		{"Txn -1", func(x *api.Page) { x.Txn = -1 }, api.ErrForm},
		{"Txn above", func(x *api.Page) { x.Txn = 1<<40 + 1 }, api.ErrForm},
		{"a long body", func(x *api.Page) { x.Body = strings.Repeat("x", 489) }, api.ErrForm},
		{"a long body beside No Limit", func(x *api.Page) { x.No, x.Body = 8, strings.Repeat("x", 489) }, api.ErrForm},
		{"no Kind beside No Limit", func(x *api.Page) { x.No, x.Kind = 8, 0 }, api.ErrForm},
	}
	for _, c := range cases {
		x := fits
		c.turn(&x)
		if e := p.Write(x); e != c.e {
			t.Errorf("%s: error %d, not %d", c.what, e, c.e)
		}
	}
	still(t, d, 3)
	isLog(t, p)
	must(t, "Cut", d.Cut(), api.OK)
	for _, c := range cases {
		x := fits
		c.turn(&x)
		if e := p.Write(x); e != c.e {
			t.Errorf("%s, without power: error %d, not %d", c.what, e, c.e)
		}
	}
	isLog(t, p)
	must(t, "Write", p.Write(fits), api.ErrDown)
	isLog(t, p, 3)
}

// A page's sectors are written rising, so that a fuse leaves the first of them.
func TestWriteWithFuse(t *testing.T) {
	old, x := leaf(2, 1, strings.Repeat("o", 488)), leaf(2, 2, strings.Repeat("n", 488))
	for fuse := 1; fuse <= 5; fuse++ {
		for pick := range 2 {
			d, p := file(t, 4)
			must(t, "Write", p.Write(old), api.OK)
			must(t, "Sync", p.Sync(), api.OK)
			isLog(t, p, 2)
			must(t, "Fuse", d.Fuse(fuse), api.OK)
			steps := d.Steps()
			want := api.ErrDown
			if fuse == 5 {
				want = api.OK
			}
			must(t, "Write", p.Write(x), want)
			still(t, d, steps+min(fuse, 4))
			isLog(t, p, 2)
			for k := range 4 {
				if wrote := d.Waits(8+k) == 1; wrote != (k < fuse-1) {
					t.Fatalf("fuse %d: %d writes of sector %d wait", fuse, d.Waits(8+k), k)
				}
			}
			if fuse == 5 {
				must(t, "Cut", d.Cut(), api.OK)
			}
			q := started(t, d, pick)
			switch {
			case fuse == 1 || pick == 0:
				isPage(t, q, old)
			case fuse == 5:
				isPage(t, q, x)
			default:
				noPage(t, q, 2, api.ErrForm)
			}
		}
	}
}

func TestSync(t *testing.T) {
	d, p := file(t, 4)
	x := leaf(3, 2, "x")
	must(t, "Write", p.Write(x), api.OK)
	must(t, "Sync", p.Sync(), api.OK)
	still(t, d, 8)
	must(t, "Sync", p.Sync(), api.OK)
	still(t, d, 9)
	must(t, "Cut", d.Cut(), api.OK)
	must(t, "Sync", p.Sync(), api.ErrDown)
	q := started(t, d)
	isPage(t, q, x)
	must(t, "Write", q.Write(leaf(3, 3, "y")), api.OK)
	must(t, "Fuse", d.Fuse(1), api.OK)
	must(t, "Sync", q.Sync(), api.ErrDown)
	isPage(t, started(t, d), x)
}

// Sync of a meta that is sealed doesn't make it the present one; it lasts, though.
func TestSyncIsNotDone(t *testing.T) {
	d, p := file(t, 4)
	must(t, "Seal", p.Seal(empty(2, 4)), api.OK)
	must(t, "Sync", p.Sync(), api.OK)
	isMeta(t, p, empty(1, 4))
	isOther(t, p, empty(0, 4), true)
	must(t, "Seal", p.Seal(empty(2, 4)), api.ErrOrder)
	must(t, "Cut", d.Cut(), api.OK)
	isMeta(t, started(t, d), empty(2, 4))
	must(t, "Done", p.Done(), api.OK)
	isMeta(t, p, empty(2, 4))
}

func TestSealRefuses(t *testing.T) {
	d, p := file(t, 8)
	for _, m := range []api.Meta{
		{}, {Txn: 2}, {Txn: 2, Pages: 1}, {Txn: 2, Limit: 8}, {Txn: -1, Pages: 1, Limit: 8}, {Txn: 1<<40 + 1, Pages: 1, Limit: 8},
		{Txn: 2, Pages: 9, Limit: 8}, {Txn: 2, Pages: -1, Limit: 8}, {Txn: 2, Root: 1, Pages: 1, Limit: 8}, {Txn: 2, Root: -1, Pages: 1, Limit: 8},
		{Txn: 2, Free: 1, Pages: 1, Limit: 8}, {Txn: 2, Free: -1, Pages: 1, Limit: 8}, {Txn: 3, Free: 1, Pages: 1, Limit: 8},
		empty(2, 7), empty(2, 9), empty(2, 4), empty(2, 512), empty(2, 2), empty(2, 513), empty(2, 0), empty(2, -8), empty(2, 1<<32+8),
		empty(1, 7), empty(3, 9),
	} {
		if e := p.Seal(m); e != api.ErrForm {
			t.Errorf("Seal(%+v): error %d", m, e)
		}
	}
	for _, txn := range []int{0, 1, 3, 4, 258, 1<<32 + 2, 1 << 40} {
		if e := p.Seal(empty(txn, 8)); e != api.ErrOrder {
			t.Errorf("Seal of %d behind 1: error %d", txn, e)
		}
	}
	must(t, "Done", p.Done(), api.ErrOrder)
	still(t, d, 3)
	isMeta(t, p, empty(1, 8))
	isOther(t, p, empty(0, 8), true)
}

// Between Seal and Done no other meta is sealed, and an error of form goes ahead.
func TestSealTwice(t *testing.T) {
	d, p := file(t, 8)
	m := api.Meta{Txn: 2, Root: 1, Pages: 2, Limit: 8}
	must(t, "Seal", p.Seal(m), api.OK)
	for _, n := range []api.Meta{m, empty(2, 8), empty(1, 8), empty(3, 8)} {
		must(t, "Seal again", p.Seal(n), api.ErrOrder)
	}
	must(t, "Seal of another Limit", p.Seal(empty(2, 9)), api.ErrForm)
	must(t, "Seal of what may not be", p.Seal(api.Meta{}), api.ErrForm)
	still(t, d, 4)
	must(t, "Done", p.Done(), api.OK)
	still(t, d, 5)
	must(t, "Done again", p.Done(), api.ErrOrder)
	still(t, d, 5)
	isMeta(t, p, m)
	isOther(t, p, empty(1, 8), true)
	must(t, "Seal of the present one", p.Seal(m), api.ErrOrder)
	must(t, "Seal", p.Seal(empty(3, 8)), api.OK)
	must(t, "Done", p.Done(), api.OK)
	isMeta(t, p, empty(3, 8))
	isOther(t, p, m, true)
	must(t, "Done again", p.Done(), api.ErrOrder)
}

// Behind the last number there is no next one.
func TestSealOfTheLast(t *testing.T) {
	d := made(t, 16)
	lay(t, d, 0, metaBytes(t, empty(1<<40-1, 4)))
	p := opened(t, d)
	must(t, "Seal", p.Seal(empty(1<<40, 4)), api.OK)
	must(t, "Done", p.Done(), api.OK)
	isMeta(t, p, empty(1<<40, 4))
	must(t, "Seal", p.Seal(empty(1<<40+1, 4)), api.ErrForm)
	must(t, "Seal", p.Seal(empty(1<<40, 4)), api.ErrOrder)
}

func TestSealWithFuse(t *testing.T) {
	d, p := file(t, 8)
	must(t, "Fuse", d.Fuse(1), api.OK)
	must(t, "Seal", p.Seal(empty(2, 8)), api.ErrDown)
	must(t, "Done", p.Done(), api.ErrOrder)
	must(t, "Seal", p.Seal(empty(2, 8)), api.ErrDown)
	still(t, d, 4)
	isMeta(t, p, empty(1, 8))
	isOther(t, p, empty(0, 8), true)
	isMeta(t, started(t, d), empty(1, 8))
	must(t, "Seal of the one that wasn't", p.Seal(empty(2, 8)), api.OK)
	must(t, "Done", p.Done(), api.OK)
	isMeta(t, p, empty(2, 8))
}

// A Done that fails leaves the meta sealed.
func TestDoneWithFuse(t *testing.T) {
	for pick := range 2 {
		d, p := file(t, 8)
		must(t, "Seal", p.Seal(empty(2, 8)), api.OK)
		must(t, "Fuse", d.Fuse(1), api.OK)
		must(t, "Done", p.Done(), api.ErrDown)
		must(t, "Done", p.Done(), api.ErrDown)
		still(t, d, 5)
		isMeta(t, p, empty(1, 8))
		isOther(t, p, empty(0, 8), true)
		must(t, "Seal", p.Seal(empty(2, 8)), api.ErrOrder)
		isMeta(t, started(t, d, pick), empty(1+pick, 8))
		must(t, "Seal", p.Seal(empty(2, 8)), api.ErrOrder)
		must(t, "Done", p.Done(), api.OK)
		isMeta(t, p, empty(2, 8))
		isOther(t, p, empty(1, 8), true)
	}
}

func TestLog(t *testing.T) {
	d, p := file(t, 8)
	isLog(t, p)
	for _, no := range []int{5, 2, 5, 7, 1, 5} {
		must(t, "Write", p.Write(leaf(no, 2, "x")), api.OK)
	}
	q := opened(t, d)
	isLog(t, q)
	log := p.Log()
	if want := []int{5, 2, 5, 7, 1, 5}; !slices.Equal(log, want) {
		t.Fatalf("Log() = %v, not %v", log, want)
	}
	isLog(t, p)
	must(t, "Write", p.Write(leaf(3, 2, "x")), api.OK)
	must(t, "Write", p.Write(leaf(4, 2, "x")), api.OK)
	if want := []int{5, 2, 5, 7, 1, 5}; !slices.Equal(log[:cap(log)][:6], want) {
		t.Fatalf("a Write changed what was told: %v", log)
	}
	clear(log[:cap(log)])
	isLog(t, p, 3, 4)
	must(t, "Write", p.Write(leaf(6, 2, "x")), api.OK)
	must(t, "Sync", p.Sync(), api.OK)
	must(t, "Seal", p.Seal(empty(2, 8)), api.OK)
	must(t, "Done", p.Done(), api.OK)
	isLog(t, p, 6)
	isLog(t, q)
}

// Whatever the device answered of a page's sectors, its number is told, once.
func TestLogWithoutPower(t *testing.T) {
	d, p := file(t, 8)
	must(t, "Fuse", d.Fuse(7), api.OK)
	must(t, "Write", p.Write(leaf(4, 2, "x")), api.OK)
	must(t, "Write", p.Write(leaf(2, 2, "x")), api.ErrDown)
	must(t, "Write", p.Write(leaf(7, 2, "x")), api.ErrDown)
	must(t, "Write", p.Write(leaf(8, 2, "x")), api.ErrArg)
	must(t, "Write", p.Write(leaf(0, 2, "x")), api.ErrForm)
	isLog(t, p, 4, 2, 7)
	isLog(t, p)
	must(t, "Write", p.Write(leaf(1, 2, "x")), api.ErrDown)
	must(t, "Start", d.Start(nil), api.OK)
	must(t, "Write", p.Write(leaf(3, 2, "x")), api.OK)
	isLog(t, p, 1, 3)
}

func TestOff(t *testing.T) {
	d, p := file(t, 8)
	must(t, "Write", p.Write(leaf(3, 1, "x")), api.OK)
	must(t, "Seal", p.Seal(empty(2, 8)), api.OK)
	must(t, "Done", p.Done(), api.OK)
	isLog(t, p, 3)
	must(t, "Cut", d.Cut(), api.OK)
	steps := d.Steps()
	noFile(t, d, api.ErrDown)
	isMeta(t, p, empty(2, 8))
	isOther(t, p, empty(1, 8), true)
	noPage(t, p, 3, api.ErrDown)
	noPage(t, p, 0, api.ErrArg)
	noPage(t, p, 8, api.ErrArg)
	must(t, "Write", p.Write(leaf(3, 2, "y")), api.ErrDown)
	must(t, "Sync", p.Sync(), api.ErrDown)
	must(t, "Seal", p.Seal(empty(3, 8)), api.ErrDown)
	must(t, "Seal", p.Seal(empty(2, 8)), api.ErrOrder)
	must(t, "Seal", p.Seal(empty(3, 7)), api.ErrForm)
	must(t, "Done", p.Done(), api.ErrOrder)
	isLog(t, p, 3)
	still(t, d, steps)
	must(t, "Start", d.Start(nil), api.OK)
	isPage(t, p, leaf(3, 1, "x"))
}

func TestNil(t *testing.T) {
	var p *pager.Pager
	isMeta(t, p, api.Meta{})
	isOther(t, p, api.Meta{}, false)
	for _, no := range []int{-1, 0, 1, 511, 512} {
		noPage(t, p, no, api.ErrNil)
	}
	must(t, "Write", p.Write(leaf(1, 1, "x")), api.ErrNil)
	must(t, "Write", p.Write(api.Page{}), api.ErrNil)
	must(t, "Sync", p.Sync(), api.ErrNil)
	must(t, "Seal", p.Seal(empty(1, 8)), api.ErrNil)
	must(t, "Seal", p.Seal(api.Meta{}), api.ErrNil)
	must(t, "Done", p.Done(), api.ErrNil)
	isLog(t, p)
}

// turn: pages are written and synced, and a meta is sealed and done. It answers how far it came: 0, 1 (sealed), 2 (done).
func turn(p *pager.Pager, txn int) int {
	for no := 1; no < 4; no++ {
		if p.Write(leaf(no, txn, strings.Repeat("n", 488))) != api.OK {
			return 0
		}
	}
	if p.Sync() != api.OK || p.Seal(api.Meta{Txn: txn, Root: 1, Free: 2, Pages: 4, Limit: 4}) != api.OK {
		return 0
	}
	if p.Done() != api.OK {
		return 1
	}
	return 2
}

// Wherever the power goes, and whatever lasts, the meta is the one that was, or, behind Seal, the one that was sealed.
func TestLossOfPower(t *testing.T) {
	for ahead := range 3 {
		for fuse := 1; fuse <= 16; fuse++ {
			for pick := range 3 {
				d, p := file(t, 4)
				for txn := 2; txn < 2+ahead; txn++ {
					if turn(p, txn) != 2 {
						t.Fatal("a turn with power failed")
					}
				}
				txn := 2 + ahead
				old := p.Meta()
				must(t, "Fuse", d.Fuse(fuse), api.OK)
				far := turn(p, txn)
				if want := map[int]int{15: 1, 16: 2}[fuse]; far != want {
					t.Fatalf("fuse %d: it came as far as %d, not %d", fuse, far, want)
				}
				if d.On() {
					must(t, "Cut", d.Cut(), api.OK)
				}
				q := started(t, d, pick)
				if far == 2 || far == 1 && pick == 1 {
					isMeta(t, q, api.Meta{Txn: txn, Root: 1, Free: 2, Pages: 4, Limit: 4})
					isOther(t, q, old, true)
					continue
				}
				isMeta(t, q, old)
			}
		}
	}
}

// model: what a pager is to answer, by the metas that were done, one behind the other; what its calls do to a device, it does to a twin.
type model struct {
	t      *testing.T
	twin   *dev.Dev
	metas  []api.Meta // the last one is the present one
	sealed []api.Meta
	log    []int
}

func modelOf(t *testing.T, twin *dev.Dev) *model {
	m := &model{t: t, twin: twin}
	m.open()
	return m
}

// open: as it is read; a place without a meta comes to none.
func (m *model) open() {
	*m = model{t: m.t, twin: m.twin}
	for i := range 2 {
		s, e := m.twin.Read(i)
		must(m.t, "dev.Read", e, api.OK)
		if x, e := page.UnpackMeta(s); e == api.OK {
			m.metas = append(m.metas, x)
		}
	}
	if len(m.metas) == 2 && m.metas[0].Txn >= m.metas[1].Txn {
		slices.Reverse(m.metas)
	}
}

func (m *model) present() api.Meta {
	return m.metas[len(m.metas)-1]
}

func (m *model) other() (api.Meta, bool) {
	if len(m.metas) < 2 {
		return api.Meta{}, false
	}
	return m.metas[len(m.metas)-2], true
}

func (m *model) write(x api.Page) api.Errno {
	s, e := page.Pack(x)
	if e != api.OK {
		return api.ErrForm
	}
	if x.No >= m.present().Limit {
		return api.ErrArg
	}
	m.log = append(m.log, x.No)
	for k := range 4 {
		if e := m.twin.Write(4*x.No+k, s[128*k:128*(k+1)]); e != api.OK {
			return e
		}
	}
	return api.OK
}

func (m *model) read(no int) (api.Page, api.Errno) {
	if no <= 0 || no > m.present().Limit-1 {
		return api.Page{}, api.ErrArg
	}
	if !m.twin.On() {
		return api.Page{}, api.ErrDown
	}
	var s strings.Builder
	for k := range 4 {
		r, _ := m.twin.Read(4*no + k)
		s.WriteString(r)
	}
	if x, e := page.Unpack(s.String()); e == api.OK && x.No == no {
		return x, api.OK
	}
	return api.Page{}, api.ErrForm
}

func (m *model) seal(x api.Meta) api.Errno {
	s, e := page.PackMeta(x)
	switch {
	case e != api.OK || x.Limit != m.present().Limit:
		return api.ErrForm
	case x.Txn-m.present().Txn != 1 || len(m.sealed) > 0:
		return api.ErrOrder
	}
	if e := m.twin.Write(x.Txn&1, s); e != api.OK {
		return e
	}
	m.sealed = []api.Meta{x}
	return api.OK
}

func (m *model) done() api.Errno {
	if len(m.sealed) == 0 {
		return api.ErrOrder
	}
	if e := m.twin.Sync(); e != api.OK {
		return e
	}
	m.metas = append(m.metas, m.sealed...)
	m.sealed = nil
	return api.OK
}

// agrees: that pager and model tell the same, and that their devices are alike.
func (m *model) agrees(d *dev.Dev, p *pager.Pager) {
	m.t.Helper()
	other, ok := m.other()
	isMeta(m.t, p, m.present())
	isOther(m.t, p, other, ok)
	if d.On() != m.twin.On() || d.Steps() != m.twin.Steps() || d.Writes() != m.twin.Writes() {
		m.t.Fatalf("on %v, %d steps, %d writes; not %v, %d, %d", d.On(), d.Steps(), d.Writes(), m.twin.On(), m.twin.Steps(), m.twin.Writes())
	}
	for i := range d.Size() {
		a, _ := d.Read(i)
		b, _ := m.twin.Read(i)
		if a != b || d.Lasts(i) != m.twin.Lasts(i) || d.Waits(i) != m.twin.Waits(i) {
			m.t.Fatalf("sector %d: %.40q, of %d that wait, not %.40q, of %d", i, a, d.Waits(i), b, m.twin.Waits(i))
		}
	}
}

// step: one call of a pager and of its model, by a byte and what else is drawn.
func (m *model) step(d *dev.Dev, p *pager.Pager, b byte, draw func(n int) int) *pager.Pager {
	m.t.Helper()
	limit := m.present().Limit
	switch b % 16 {
	case 0, 1, 2, 3:
		x := api.Page{Kind: 1 + draw(4), No: draw(limit + 2), Txn: draw(9), Body: strings.Repeat(string(rune('a'+draw(26))), draw(490))}
		must(m.t, "Write", p.Write(x), m.write(x))
	case 4, 5, 6:
		no := draw(limit+2) - 1
		x, e := p.Read(no)
		if y, f := m.read(no); x != y || e != f {
			m.t.Fatalf("Read(%d): page %d, error %d, not %d, %d", no, x.No, e, y.No, f)
		}
	case 7:
		must(m.t, "Sync", p.Sync(), m.twin.Sync())
	case 8, 9, 10:
		pages := draw(limit + 2)
		x := api.Meta{Txn: m.present().Txn + draw(4) - 1, Root: draw(pages + 1), Free: draw(pages + 1), Pages: pages, Limit: limit + draw(8)/7}
		must(m.t, "Seal", p.Seal(x), m.seal(x))
	case 11, 12:
		must(m.t, "Done", p.Done(), m.done())
	case 13:
		isLog(m.t, p, m.log...)
		m.log = nil
	case 14:
		n := draw(8)
		must(m.t, "Fuse", d.Fuse(n), m.twin.Fuse(n))
	case 15:
		d.Cut()
		m.twin.Cut()
		picks := []int{draw(4), draw(4), draw(4)}
		must(m.t, "Start", d.Start(picks), m.twin.Start(picks))
		if draw(2) == 0 {
			m.open()
			p = opened(m.t, d)
		}
	}
	return p
}

func TestCallsOfAllKinds(t *testing.T) {
	r := rand.New(rand.NewSource(5))
	for range 60 {
		limit := 4 + r.Intn(5)
		d, p := file(t, limit)
		twin, _ := file(t, limit)
		m := modelOf(t, twin)
		for range 300 {
			p = m.step(d, p, byte(r.Intn(16)), r.Intn)
			m.agrees(d, p)
		}
	}
}

// Calls that any bytes say are held against the model.
func FuzzCalls(f *testing.F) {
	f.Add([]byte("a file"))
	f.Add([]byte{8, 3, 0, 0, 2, 0, 11, 15, 0, 0, 0, 0})
	f.Add([]byte{0, 1, 3, 2, 5, 7, 8, 3, 0, 0, 2, 0, 14, 1, 11, 15, 1, 1, 1, 0, 4, 4})
	f.Fuzz(func(t *testing.T, calls []byte) {
		draw := func(n int) int {
			if len(calls) == 0 {
				return 0
			}
			b := calls[0]
			calls = calls[1:]
			return int(b) % n
		}
		d, p := file(t, 5)
		twin, _ := file(t, 5)
		m := modelOf(t, twin)
		for range 100 {
			if len(calls) == 0 {
				return
			}
			p = m.step(d, p, byte(draw(256)), draw)
			m.agrees(d, p)
		}
	})
}

// Of any bytes in the sectors 0 and 1, Open tells what page.Newest does.
func FuzzOpen(f *testing.F) {
	m, _ := page.PackMeta(api.Meta{Txn: 7, Root: 3, Free: 2, Pages: 4, Limit: 8})
	n, _ := page.PackMeta(api.Meta{Txn: 8, Pages: 1, Limit: 9})
	f.Add(m, n, uint16(31))
	f.Add(n, m, uint16(35))
	f.Add("", m, uint16(32))
	f.Fuzz(func(t *testing.T, a, b string, sectors uint16) {
		d := made(t, 2+int(sectors)%2047)
		a, b = (a + noughts())[:128], (b + noughts())[:128]
		lay(t, d, 0, a+b)
		p, e := pager.Open(d)
		x, place, f := page.Newest(a, b)
		if f == api.OK && 4*x.Limit > d.Size() {
			x, f = api.Meta{}, api.ErrForm
		}
		if e != f || (p != nil) != (f == api.OK) || p.Meta() != x {
			t.Fatalf("Open: %+v, error %d, not %+v, %d", p.Meta(), e, x, f)
		}
		if f == api.OK {
			other, g := page.UnpackMeta([]string{b, a}[place])
			isOther(t, p, other, g == api.OK)
		}
	})
}
