package page_test

import (
	"encoding/binary"
	"fmt"
	"hash/crc32"
	"math"
	"math/rand"
	"strings"
	"testing"

	"rollbook/api"
	"rollbook/page"
)

// pageBytes lays a page as the chapter tells it, whether it may be or not, with the right sum.
func pageBytes(kind, no, txn int, length int, body string) string {
	b := make([]byte, 512)
	b[0], b[1], b[2] = 82, 66, byte(kind)
	binary.BigEndian.PutUint16(b[4:], uint16(length))
	binary.BigEndian.PutUint32(b[6:], uint32(no))
	binary.BigEndian.PutUint64(b[10:], uint64(txn))
	copy(b[24:], body)
	binary.BigEndian.PutUint32(b[18:], crc32.ChecksumIEEE(b))
	return string(b)
}

func bytesOf(p api.Page) string {
	return pageBytes(p.Kind, p.No, p.Txn, len(p.Body), p.Body)
}

// metaBytes lays a meta as the chapter tells it, whether it may be or not, with the right sum.
func metaBytes(m api.Meta) string {
	b := make([]byte, 128)
	copy(b, "ROLLBOOK")
	binary.BigEndian.PutUint64(b[8:], uint64(m.Txn))
	for i, n := range []int{m.Root, m.Free, m.Pages, m.Limit} {
		binary.BigEndian.PutUint32(b[16+4*i:], uint32(n))
	}
	binary.BigEndian.PutUint32(b[32:], crc32.ChecksumIEEE(b[:32]))
	return string(b)
}

// pageWith: a page's bytes with other ones from a place on, and the right sum of that.
func pageWith(s string, at int, other string) string {
	b := []byte(s)
	copy(b[at:], other)
	copy(b[18:22], "\x00\x00\x00\x00")
	binary.BigEndian.PutUint32(b[18:], crc32.ChecksumIEEE(b))
	return string(b)
}

// metaWith: a meta's bytes with other ones from a place on, and the right sum of that.
func metaWith(s string, at int, other string) string {
	b := []byte(s)
	copy(b[at:], other)
	binary.BigEndian.PutUint32(b[32:], crc32.ChecksumIEEE(b[:32]))
	return string(b)
}

func four(n uint32) string {
	return string(binary.BigEndian.AppendUint32(nil, n))
}

func eight(n uint64) string {
	return string(binary.BigEndian.AppendUint64(nil, n))
}

// bodies of all lengths that matter, with bytes that a slip would lose or find.
func bodies() []string {
	mixed := make([]byte, 488)
	for i := range mixed {
		mixed[i] = byte(i*7 + i/256)
	}
	return []string{
		"", "x", "\x00", "\xff", "abc", "abc\x00", "\x00abc", "RB\x01", "ROLLBOOK", "\u00e4\u4e16", "\xc3\x28\x80",
		string(mixed[:255]), string(mixed[:256]), string(mixed[:257]), string(mixed[:487]), string(mixed),
		strings.Repeat("\x00", 487), strings.Repeat("\x00", 488), strings.Repeat("\xff", 488), strings.Repeat("y", 487) + "\x00",
	}
}

// pages that may be, of all kinds.
func pages() []api.Page {
	var all []api.Page
	for _, kind := range []int{api.PageLeaf, api.PageBranch, api.PageOver, api.PageFree} {
		for _, no := range []int{1, 2, 3, 255, 256, 510, 511} {
			for _, txn := range []int{0, 1, 7, 255, 256, 1<<32 - 1, 1 << 32, 0x0102030405, 1<<40 - 1, 1 << 40} {
				all = append(all, api.Page{Kind: kind, No: no, Txn: txn, Body: "body"})
			}
		}
		for _, body := range bodies() {
			all = append(all, api.Page{Kind: kind, No: 300, Txn: 0x0203040506, Body: body})
		}
	}
	return all
}

// noPages: each may not be for one thing alone.
func noPages() []api.Page {
	all := []api.Page{{}}
	for _, kind := range []int{0, 5, 6, -1, 255, 256, 257, 260, math.MaxInt, math.MinInt} {
		all = append(all, api.Page{Kind: kind, No: 3, Txn: 7, Body: "x"})
	}
	for _, no := range []int{0, 512, 513, -1, -511, 1<<32 + 3, math.MaxInt, math.MinInt} {
		all = append(all, api.Page{Kind: 1, No: no, Txn: 7, Body: "x"})
	}
	for _, txn := range []int{-1, -7, 1<<40 + 1, 1 << 41, math.MaxInt, math.MinInt} {
		all = append(all, api.Page{Kind: 1, No: 3, Txn: txn, Body: "x"})
	}
	for _, length := range []int{489, 490, 512, 65535, 65536, 65537, 70000} {
		all = append(all, api.Page{Kind: 1, No: 3, Txn: 7, Body: strings.Repeat("x", length)})
	}
	return all
}

// metas that may be, of all kinds.
func metas() []api.Meta {
	all := []api.Meta{{Txn: 3, Root: 2, Free: 4, Pages: 6, Limit: 9}, {Txn: 0x0102030405, Root: 0x101, Free: 0x102, Pages: 0x1fe, Limit: 0x1ff}}
	for _, txn := range []int{0, 1, 255, 256, 1<<32 - 1, 1 << 32, 1<<40 - 1, 1 << 40} {
		for _, limit := range []int{2, 3, 255, 256, 511, 512} {
			for _, count := range []int{1, 2, limit - 1, limit} {
				for _, no := range []int{0, count - 1} {
					all = append(all, api.Meta{Txn: txn, Root: no, Free: 0, Pages: count, Limit: limit})
					all = append(all, api.Meta{Txn: txn, Root: 0, Free: no, Pages: count, Limit: limit})
				}
			}
		}
	}
	return all
}

// noMetas: each may not be for one thing alone, where one can be alone.
func noMetas() []api.Meta {
	all := []api.Meta{{}}
	for _, txn := range []int{-1, -7, 1<<40 + 1, 1 << 41, math.MaxInt, math.MinInt} {
		all = append(all, api.Meta{Txn: txn, Pages: 1, Limit: 2})
	}
	for _, limit := range []int{513, 514, 1<<32 + 2, 1<<32 + 512, math.MaxInt} {
		all = append(all, api.Meta{Txn: 1, Pages: 1, Limit: limit})
	}
	for _, limit := range []int{1, 0, -1, math.MinInt} {
		all = append(all, api.Meta{Txn: 1, Pages: 1, Limit: limit}, api.Meta{Txn: 1, Pages: limit, Limit: limit})
	}
	for _, count := range []int{0, -1, 10, 11, 512, 1<<32 + 1, math.MaxInt, math.MinInt} {
		all = append(all, api.Meta{Txn: 1, Pages: count, Limit: 9})
	}
	for _, no := range []int{-1, 6, 7, 9, 511, 512, 1 << 32, 1<<32 + 1, math.MaxInt, math.MinInt} {
		all = append(all, api.Meta{Txn: 1, Root: no, Pages: 6, Limit: 9}, api.Meta{Txn: 1, Free: no, Pages: 6, Limit: 9})
	}
	return append(all, api.Meta{Txn: 1, Root: 1, Pages: 1, Limit: 2}, api.Meta{Txn: 1, Free: 1, Pages: 1, Limit: 2})
}

// told: a page in short, with a Body's beginning.
func told(p api.Page) string {
	return fmt.Sprintf("{%d %d %d %.20q of %d bytes}", p.Kind, p.No, p.Txn, p.Body, len(p.Body))
}

// isPage: that a text is this page's.
func isPage(t *testing.T, what string, s string, want api.Page) {
	t.Helper()
	if p, e := page.Unpack(s); p != want || e != api.OK {
		t.Fatalf("%s: Unpack = %s, error %d, not %s", what, told(p), e, told(want))
	}
}

// noPage: that a text is none's.
func noPage(t *testing.T, what string, s string) {
	t.Helper()
	if p, e := page.Unpack(s); p != (api.Page{}) || e != api.ErrForm {
		t.Fatalf("%s: Unpack = %s, error %d", what, told(p), e)
	}
}

// isMeta: that a text is this meta's.
func isMeta(t *testing.T, what string, s string, want api.Meta) {
	t.Helper()
	if m, e := page.UnpackMeta(s); m != want || e != api.OK {
		t.Fatalf("%s: UnpackMeta = %+v, error %d, not %+v", what, m, e, want)
	}
}

// noMeta: that a text is none's.
func noMeta(t *testing.T, what string, s string) {
	t.Helper()
	if m, e := page.UnpackMeta(s); m != (api.Meta{}) || e != api.ErrForm {
		t.Fatalf("%s: UnpackMeta = %+v, error %d", what, m, e)
	}
}

// P4.1: pages.

func TestPackExample(t *testing.T) {
	s, e := page.Pack(api.Page{Kind: 1, No: 3, Txn: 7, Body: "x"})
	begins := "\x52\x42\x01\x00\x00\x01\x00\x00\x00\x03" + "\x00\x00\x00\x00\x00\x00\x00\x07"
	if e != api.OK || len(s) != 512 || s[:18] != begins {
		t.Fatalf("%q, error %d", s, e)
	}
	without := begins + "\x00\x00\x00\x00" + "\x00\x00" + "x" + strings.Repeat("\x00", 487)
	if s[18:22] != four(crc32.ChecksumIEEE([]byte(without))) || s[22:] != without[22:] {
		t.Errorf("%q", s[18:])
	}
}

func TestPackLaysPagesAsTheWordsSay(t *testing.T) {
	for _, p := range pages() {
		if !page.Right(p) {
			t.Errorf("Right(%s) = false", told(p))
		}
		if s, e := page.Pack(p); s != bytesOf(p) || e != api.OK {
			t.Errorf("Pack(%s) = %.40q of %d bytes, error %d", told(p), s, len(s), e)
		}
		isPage(t, "as the words say", bytesOf(p), p)
	}
}

func TestPackRefusesWhatMayNotBe(t *testing.T) {
	for _, p := range noPages() {
		if page.Right(p) {
			t.Errorf("Right(%s) = true", told(p))
		}
		if s, e := page.Pack(p); s != "" || e != api.ErrForm {
			t.Errorf("Pack(%s) = %.40q of %d bytes, error %d", told(p), s, len(s), e)
		}
	}
}

func TestPagesReadBackAreThemselves(t *testing.T) {
	seen := map[string]api.Page{}
	for _, p := range pages() {
		s, e := page.Pack(p)
		if e != api.OK {
			t.Fatalf("Pack(%s): error %d", told(p), e)
		}
		isPage(t, "packed", s, p)
		if q, ok := seen[s]; ok && q != p {
			t.Fatalf("%s and %s have the same bytes", told(p), told(q))
		}
		seen[s] = p
	}
}

func TestUnpackRefusesOtherLengths(t *testing.T) {
	whole := bytesOf(api.Page{Kind: 2, No: 511, Txn: 1 << 40, Body: strings.Repeat("b", 488)})
	empty := bytesOf(api.Page{Kind: 1, No: 1})
	for _, s := range []string{whole, empty} {
		for n := range 512 {
			noPage(t, "a beginning", s[:n])
			noPage(t, "an end", s[512-n:])
		}
		noPage(t, "a nought more", s+"\x00")
		noPage(t, "a nought ahead", "\x00"+s)
		noPage(t, "a letter more", s+"b")
		noPage(t, "twice", s+s)
	}
	for _, n := range []int{0, 1, 127, 128, 129, 511, 512, 513, 1024, 65536} {
		noPage(t, "noughts", strings.Repeat("\x00", n))
		noPage(t, "ones", strings.Repeat("\xff", n))
	}
	// Whose sum is right, of the bytes that there are.
	for _, n := range []int{24, 25, 128, 511, 513, 1024} {
		b := make([]byte, n)
		copy(b, empty[:18])
		binary.BigEndian.PutUint32(b[18:], crc32.ChecksumIEEE(b))
		noPage(t, "with a sum of its own", string(b))
	}
	noPage(t, "a meta", metaBytes(api.Meta{Pages: 1, Limit: 2}))
}

func TestUnpackRefusesFieldsThatMayNotBe(t *testing.T) {
	good := bytesOf(api.Page{Kind: 1, No: 3, Txn: 7, Body: "x"})
	for kind := range 256 {
		s := pageWith(good, 2, string([]byte{byte(kind)}))
		if kind >= 1 && kind <= 4 {
			isPage(t, "kind", s, api.Page{Kind: kind, No: 3, Txn: 7, Body: "x"})
		} else {
			noPage(t, "kind", s)
		}
	}
	for _, no := range []uint32{0, 512, 513, 0x103 << 8, 1 << 16, 1<<24 + 3, math.MaxInt32, 1 << 31, 1<<31 + 3, math.MaxUint32} {
		noPage(t, "number", pageWith(good, 6, four(no)))
	}
	for _, txn := range []uint64{1<<40 + 1, 1 << 41, 1<<40 + 7, 1<<48 + 7, 1<<56 + 7, 1<<63 - 1, 1 << 63, 1<<63 + 7, math.MaxUint64} {
		noPage(t, "transaction", pageWith(good, 10, eight(txn)))
	}
	for _, no := range []uint32{1, 511} {
		isPage(t, "number", pageWith(good, 6, four(no)), api.Page{Kind: 1, No: int(no), Txn: 7, Body: "x"})
	}
	for _, txn := range []uint64{0, 1 << 40} {
		isPage(t, "transaction", pageWith(good, 10, eight(txn)), api.Page{Kind: 1, No: 3, Txn: int(txn), Body: "x"})
	}
}

func TestUnpackRefusesLengths(t *testing.T) {
	body := strings.Repeat("z", 300)
	good := bytesOf(api.Page{Kind: 3, No: 9, Txn: 1, Body: body})
	for length := range 65536 {
		if length > 1100 && length%251 != 0 && length < 65000 {
			continue
		}
		s := pageWith(good, 4, string([]byte{byte(length >> 8), byte(length)}))
		if length >= 300 && length <= 488 {
			isPage(t, "length", s, api.Page{Kind: 3, No: 9, Txn: 1, Body: body + strings.Repeat("\x00", length-300)})
		} else {
			noPage(t, "length", s)
		}
	}
	full := pageBytes(1, 3, 7, 488, strings.Repeat("z", 488))
	noPage(t, "489 bytes", pageWith(full, 4, "\x01\xe9"))
	noPage(t, "487 bytes, and one behind", pageWith(full, 4, "\x01\xe7"))
}

func TestUnpackRefusesOtherMarks(t *testing.T) {
	good := bytesOf(api.Page{Kind: 1, No: 3, Txn: 7, Body: "x"})
	for _, mark := range []string{"BR", "rb", "Rb", "rB", "RR", "BB", "RA", "SB", "\x00\x00", "RO"} {
		noPage(t, mark, pageWith(good, 0, mark))
	}
	for at := range 2 {
		for turn := 1; turn < 256; turn++ {
			noPage(t, "mark", pageWith(good, at, string([]byte{good[at] ^ byte(turn)})))
		}
	}
}

func TestUnpackRefusesWhatIsNoNought(t *testing.T) {
	for _, body := range []string{"", "x", strings.Repeat("x", 100), strings.Repeat("x", 487)} {
		good := bytesOf(api.Page{Kind: 1, No: 3, Txn: 7, Body: body})
		noughts := []int{3, 22, 23}
		for at := 24 + len(body); at < 512; at++ {
			noughts = append(noughts, at)
		}
		for _, at := range noughts {
			for _, other := range []byte{1, 2, 0x0f, 0x80, 0xff} {
				noPage(t, "no nought", pageWith(good, at, string([]byte{other})))
			}
		}
	}
}

func TestUnpackRefusesOtherSums(t *testing.T) {
	good := bytesOf(api.Page{Kind: 1, No: 3, Txn: 7, Body: "x"})
	sum := binary.BigEndian.Uint32([]byte(good[18:]))
	put := func(n uint32) string { return good[:18] + four(n) + good[22:] }
	isPage(t, "its sum", put(sum), api.Page{Kind: 1, No: 3, Txn: 7, Body: "x"})
	noPage(t, "no sum", put(0))
	noPage(t, "one more", put(sum+1))
	noPage(t, "all bits turned", put(^sum))
	noPage(t, "the lowest byte first", good[:18]+string(binary.LittleEndian.AppendUint32(nil, sum))+good[22:])
	noPage(t, "the sum of what is ahead of it", put(crc32.ChecksumIEEE([]byte(good[:18]))))
	noPage(t, "the sum of what is behind it", put(crc32.ChecksumIEEE([]byte(good[22:]))))
	noPage(t, "the sum without its place", put(crc32.ChecksumIEEE([]byte(good[:18]+good[22:]))))
	noPage(t, "the sum of the sum too", put(crc32.ChecksumIEEE([]byte(good))))
	noPage(t, "the sum of head and body", put(crc32.ChecksumIEEE([]byte(good[:18]+"\x00\x00\x00\x00\x00\x00x"))))
}

// P4.1: metas.

func TestPackMetaExample(t *testing.T) {
	s, e := page.PackMeta(api.Meta{Txn: 0x0102030405, Root: 0x106, Free: 0x107, Pages: 0x108, Limit: 0x109})
	begins := "ROLLBOOK" + "\x00\x00\x00\x01\x02\x03\x04\x05" + "\x00\x00\x01\x06" + "\x00\x00\x01\x07" + "\x00\x00\x01\x08" + "\x00\x00\x01\x09"
	want := begins + four(crc32.ChecksumIEEE([]byte(begins))) + strings.Repeat("\x00", 92)
	if s != want || e != api.OK {
		t.Errorf("%q, error %d, not %q", s, e, want)
	}
}

func TestPackMetaLaysMetasAsTheWordsSay(t *testing.T) {
	for _, m := range metas() {
		if !page.RightMeta(m) {
			t.Errorf("RightMeta(%+v) = false", m)
		}
		s, e := page.PackMeta(m)
		if s != metaBytes(m) || e != api.OK {
			t.Errorf("PackMeta(%+v) = %.40q of %d bytes, error %d", m, s, len(s), e)
		}
		isMeta(t, "packed", s, m)
		isMeta(t, "as the words say", metaBytes(m), m)
	}
}

func TestPackMetaRefusesWhatMayNotBe(t *testing.T) {
	for _, m := range noMetas() {
		if page.RightMeta(m) {
			t.Errorf("RightMeta(%+v) = true", m)
		}
		if s, e := page.PackMeta(m); s != "" || e != api.ErrForm {
			t.Errorf("PackMeta(%+v) = %.40q of %d bytes, error %d", m, s, len(s), e)
		}
	}
}

// Every meta of a small file, by the words alone.
func TestRightMetaOfSmallFiles(t *testing.T) {
	for limit := -1; limit <= 5; limit++ {
		for count := -1; count <= 6; count++ {
			for root := -1; root <= 6; root++ {
				for free := -1; free <= 6; free++ {
					want := limit >= 2 && count >= 1 && count <= limit && root >= 0 && root <= count-1 && free >= 0 && free <= count-1
					m := api.Meta{Txn: 1, Root: root, Free: free, Pages: count, Limit: limit}
					if page.RightMeta(m) != want {
						t.Errorf("RightMeta(%+v) = %t", m, !want)
					}
					if s, e := page.PackMeta(m); (e == api.OK) != want || (s != "") != want {
						t.Errorf("PackMeta(%+v): %d bytes, error %d", m, len(s), e)
					}
				}
			}
		}
	}
}

func TestUnpackMetaRefusesOtherLengths(t *testing.T) {
	whole := metaBytes(api.Meta{Txn: 1 << 40, Root: 510, Free: 509, Pages: 511, Limit: 512})
	for n := range 128 {
		noMeta(t, "a beginning", whole[:n])
		noMeta(t, "an end", whole[128-n:])
	}
	noMeta(t, "a nought more", whole+"\x00")
	noMeta(t, "a nought ahead", "\x00"+whole)
	noMeta(t, "twice", whole+whole)
	noMeta(t, "up to a page", whole+strings.Repeat("\x00", 384))
	for _, n := range []int{0, 1, 127, 128, 129, 511, 512, 513, 65536} {
		noMeta(t, "noughts", strings.Repeat("\x00", n))
		noMeta(t, "ones", strings.Repeat("\xff", n))
	}
	noMeta(t, "a page", bytesOf(api.Page{Kind: 1, No: 1}))
	noMeta(t, "a page's first sector", bytesOf(api.Page{Kind: 1, No: 1})[:128])
}

func TestUnpackMetaRefusesFieldsThatMayNotBe(t *testing.T) {
	m := api.Meta{Txn: 3, Root: 2, Free: 4, Pages: 6, Limit: 9}
	good := metaBytes(m)
	for _, txn := range []uint64{1<<40 + 1, 1 << 41, 1<<40 + 3, 1<<48 + 3, 1<<56 + 3, 1<<63 - 1, 1 << 63, 1<<63 + 3, math.MaxUint64} {
		noMeta(t, "Txn", metaWith(good, 8, eight(txn)))
	}
	for _, no := range []uint32{6, 7, 9, 512, 2 << 8, 2 << 16, 1<<24 + 2, 1 << 31, math.MaxUint32} {
		noMeta(t, "Root", metaWith(good, 16, four(no)))
		noMeta(t, "Free", metaWith(good, 20, four(no)))
	}
	for _, count := range []uint32{0, 1, 2, 4, 10, 512, 6 << 8, 6 << 16, 1<<24 + 6, 1 << 31, math.MaxUint32} {
		noMeta(t, "Pages", metaWith(good, 24, four(count)))
	}
	for _, limit := range []uint32{0, 1, 2, 5, 513, 9 << 8, 9 << 16, 1<<24 + 9, 1 << 31, math.MaxUint32} {
		noMeta(t, "Limit", metaWith(good, 28, four(limit)))
	}
	isMeta(t, "Root", metaWith(good, 16, four(5)), api.Meta{Txn: 3, Root: 5, Free: 4, Pages: 6, Limit: 9})
	isMeta(t, "Free", metaWith(good, 20, four(5)), api.Meta{Txn: 3, Root: 2, Free: 5, Pages: 6, Limit: 9})
	isMeta(t, "Pages", metaWith(good, 24, four(5)), api.Meta{Txn: 3, Root: 2, Free: 4, Pages: 5, Limit: 9})
	isMeta(t, "Limit", metaWith(good, 28, four(512)), api.Meta{Txn: 3, Root: 2, Free: 4, Pages: 6, Limit: 512})
	one := metaBytes(api.Meta{Pages: 1, Limit: 2})
	noMeta(t, "Limit and Pages 0", metaWith(one, 24, four(0)+four(0)))
	noMeta(t, "Pages 0", metaWith(one, 24, four(0)))
	noMeta(t, "Limit 1", metaWith(one, 28, four(1)))
}

func TestUnpackMetaRefusesOtherMarks(t *testing.T) {
	good := metaBytes(api.Meta{Txn: 3, Root: 2, Free: 4, Pages: 6, Limit: 9})
	noMeta(t, "small letters", metaWith(good, 0, "rollbook"))
	for at := range 8 {
		for turn := 1; turn < 256; turn++ {
			noMeta(t, "mark", metaWith(good, at, string([]byte{good[at] ^ byte(turn)})))
		}
	}
}

func TestUnpackMetaRefusesWhatIsNoNought(t *testing.T) {
	good := metaBytes(api.Meta{Txn: 3, Root: 2, Free: 4, Pages: 6, Limit: 9})
	for at := 36; at < 128; at++ {
		for other := 1; other < 256; other++ {
			noMeta(t, "no nought", metaWith(good, at, string([]byte{byte(other)})))
		}
	}
}

func TestUnpackMetaRefusesOtherSums(t *testing.T) {
	m := api.Meta{Txn: 3, Root: 2, Free: 4, Pages: 6, Limit: 9}
	good := metaBytes(m)
	sum := binary.BigEndian.Uint32([]byte(good[32:]))
	put := func(n uint32) string { return good[:32] + four(n) + good[36:] }
	isMeta(t, "its sum", put(sum), m)
	noMeta(t, "no sum", put(0))
	noMeta(t, "one more", put(sum+1))
	noMeta(t, "all bits turned", put(^sum))
	noMeta(t, "the lowest byte first", good[:32]+string(binary.LittleEndian.AppendUint32(nil, sum))+good[36:])
	noMeta(t, "the sum of the sum too", put(crc32.ChecksumIEEE([]byte(good[:36]))))
	noMeta(t, "the sum of the sector", put(crc32.ChecksumIEEE([]byte(good[:32]+strings.Repeat("\x00", 96)))))
	noMeta(t, "the sum without the mark", put(crc32.ChecksumIEEE([]byte(good[8:32]))))
}

// P4.2.

func TestNewest(t *testing.T) {
	elder := api.Meta{Txn: 0, Root: 0, Free: 0, Pages: 1, Limit: 2}
	newer := api.Meta{Txn: 1, Root: 3, Free: 2, Pages: 5, Limit: 8}
	alike := api.Meta{Txn: 1, Root: 1, Free: 4, Pages: 6, Limit: 7}
	last := api.Meta{Txn: 1 << 40, Root: 511, Free: 510, Pages: 512, Limit: 512}
	for _, x := range []struct {
		what string
		a, b string
		m    api.Meta
		i    int
	}{
		{"the second is newer", metaBytes(elder), metaBytes(newer), newer, 1},
		{"the first is newer", metaBytes(newer), metaBytes(elder), newer, 0},
		{"the second is far newer", metaBytes(newer), metaBytes(last), last, 1},
		{"the first is far newer", metaBytes(last), metaBytes(newer), last, 0},
		{"one Txn", metaBytes(newer), metaBytes(alike), newer, 0},
		{"one Txn, the other way", metaBytes(alike), metaBytes(newer), alike, 0},
		{"one Txn of 0", metaBytes(elder), metaBytes(elder), elder, 0},
		{"the greatest Txn", metaBytes(last), metaBytes(last), last, 0},
	} {
		if m, i, e := page.Newest(x.a, x.b); m != x.m || i != x.i || e != api.OK {
			t.Errorf("%s: %+v, %d, error %d", x.what, m, i, e)
		}
	}
}

// noMetaTexts are none's, though some look newer than all that are.
func noMetaTexts() []string {
	far := metaBytes(api.Meta{Txn: 1 << 40, Pages: 1, Limit: 2})
	return []string{
		"", "x", far[:127], far + "\x00", far[1:], strings.Repeat("\x00", 128), strings.Repeat("\xff", 128), strings.Repeat("\x00", 512),
		metaWith(far, 8, eight(1<<40+1)), metaWith(far, 8, eight(math.MaxUint64)), metaWith(far, 28, four(1)), metaWith(far, 127, "\x01"),
		far[:32] + four(7) + far[36:], bytesOf(api.Page{Kind: 1, No: 1}), far + far,
	}
}

func TestNewestOfOneAlone(t *testing.T) {
	for _, txn := range []int{0, 1, 7, 1<<40 - 1, 1 << 40} {
		m := api.Meta{Txn: txn, Root: 1, Free: 2, Pages: 3, Limit: 4}
		for _, none := range noMetaTexts() {
			if n, i, e := page.Newest(metaBytes(m), none); n != m || i != 0 || e != api.OK {
				t.Errorf("the first alone, Txn %d: %+v, %d, error %d", txn, n, i, e)
			}
			if n, i, e := page.Newest(none, metaBytes(m)); n != m || i != 1 || e != api.OK {
				t.Errorf("the second alone, Txn %d: %+v, %d, error %d", txn, n, i, e)
			}
		}
	}
}

func TestNewestOfNeither(t *testing.T) {
	for _, a := range noMetaTexts() {
		for _, b := range noMetaTexts() {
			if m, i, e := page.Newest(a, b); m != (api.Meta{}) || i != 0 || e != api.ErrForm {
				t.Errorf("%.20q and %.20q: %+v, %d, error %d", a, b, m, i, e)
			}
		}
	}
}

// P4.3.

// turned: a text with bits turned in the bytes from a place on, where turns has ones.
func turned(s string, at int, turns string) string {
	b := []byte(s)
	for i := range len(turns) {
		b[at+i] ^= turns[i]
	}
	return string(b)
}

// turnsOf n bytes, each of which is turned.
func turnsOf(n int) []string {
	all := []string{strings.Repeat("\x01", n), strings.Repeat("\x80", n), strings.Repeat("\xff", n), "\x20\x83\xb8\xed"[:n], "\xed\xb8\x83\x20"[:n]}
	r := rand.New(rand.NewSource(int64(n)))
	for range 12 {
		b := make([]byte, n)
		for i := range b {
			b[i] = byte(1 + r.Intn(255))
		}
		all = append(all, string(b))
	}
	return all
}

// inOrOut: are n bytes from a place on all a sum's (of four bytes, from another place on), or none?
func inOrOut(at, n, sumAt int) bool {
	in := 0
	for i := at; i < at+n; i++ {
		if i >= sumAt && i < sumAt+4 {
			in++
		}
	}
	return in == 0 || in == n
}

func TestNoPageWithOneByteTurned(t *testing.T) {
	s := bytesOf(api.Page{Kind: 1, No: 3, Txn: 7, Body: strings.Repeat("leaf\x00", 60)})
	for at := range 512 {
		for turn := 1; turn < 256; turn++ {
			noPage(t, "one byte turned", turned(s, at, string([]byte{byte(turn)})))
		}
	}
}

func TestNoPageWithNeighboursTurned(t *testing.T) {
	for _, p := range []api.Page{{Kind: 2, No: 1}, {Kind: 3, No: 511, Txn: 1 << 40, Body: strings.Repeat("\xff", 488)}, {Kind: 4, No: 256, Txn: 300, Body: "free"}} {
		s := bytesOf(p)
		for n := 1; n <= 4; n++ {
			for at := range 512 - n + 1 {
				if !inOrOut(at, n, 18) {
					continue
				}
				for _, turns := range turnsOf(n) {
					noPage(t, "neighbours turned", turned(s, at, turns))
				}
			}
		}
	}
}

func TestNoMetaWithOneByteTurned(t *testing.T) {
	s := metaBytes(api.Meta{Txn: 3, Root: 2, Free: 4, Pages: 6, Limit: 9})
	for at := range 128 {
		for turn := 1; turn < 256; turn++ {
			noMeta(t, "one byte turned", turned(s, at, string([]byte{byte(turn)})))
		}
	}
}

func TestNoMetaWithNeighboursTurned(t *testing.T) {
	for _, m := range []api.Meta{{Pages: 1, Limit: 2}, {Txn: 1 << 40, Root: 255, Free: 256, Pages: 511, Limit: 512}, {Txn: 3, Root: 2, Free: 4, Pages: 6, Limit: 9}} {
		s := metaBytes(m)
		for n := 1; n <= 4; n++ {
			for at := range 128 - n + 1 {
				if !inOrOut(at, n, 32) {
					continue
				}
				for _, turns := range turnsOf(n) {
					noMeta(t, "neighbours turned", turned(s, at, turns))
				}
			}
		}
	}
}

// What a field may be elsewhere doesn't help: turned into another one that may be, it is none's for its sum.
func TestNoPageOrMetaWithAnotherField(t *testing.T) {
	p := bytesOf(api.Page{Kind: 1, No: 3, Txn: 7, Body: "x"})
	m := metaBytes(api.Meta{Txn: 3, Root: 2, Free: 4, Pages: 6, Limit: 9})
	for _, no := range []uint32{1, 2, 4, 511} {
		noPage(t, "number", p[:6]+four(no)+p[10:])
	}
	for _, kind := range []string{"\x02", "\x03", "\x04"} {
		noPage(t, "kind", p[:2]+kind+p[3:])
	}
	noPage(t, "length", p[:5]+"\x02"+p[6:])
	noPage(t, "transaction", p[:10]+eight(8)+p[18:])
	noPage(t, "body", p[:24]+"y"+p[25:])
	noMeta(t, "Txn", m[:8]+eight(4)+m[16:])
	noMeta(t, "Root", m[:16]+four(1)+m[20:])
	noMeta(t, "Free", m[:20]+four(3)+m[24:])
	noMeta(t, "Pages", m[:24]+four(7)+m[28:])
	noMeta(t, "Limit", m[:28]+four(8)+m[32:])
}

// Whatever comes: a page's or a meta's bytes, that are laid again so, or none's.

func checkPage(t *testing.T, s string) {
	t.Helper()
	p, e := page.Unpack(s)
	if e == api.OK {
		if u, f := page.Pack(p); u != s || f != api.OK || s != bytesOf(p) || !page.Right(p) {
			t.Fatalf("%q is told to be %s's", s, told(p))
		}
		return
	}
	if p != (api.Page{}) || e != api.ErrForm {
		t.Fatalf("Unpack(%q) = %s, error %d", s, told(p), e)
	}
}

func checkMeta(t *testing.T, s string) {
	t.Helper()
	m, e := page.UnpackMeta(s)
	if e == api.OK {
		if u, f := page.PackMeta(m); u != s || f != api.OK || s != metaBytes(m) || !page.RightMeta(m) {
			t.Fatalf("%q is told to be %+v's", s, m)
		}
		return
	}
	if m != (api.Meta{}) || e != api.ErrForm {
		t.Fatalf("UnpackMeta(%q) = %+v, error %d", s, m, e)
	}
}

func TestWhateverComes(t *testing.T) {
	r := rand.New(rand.NewSource(4))
	p, m := bytesOf(api.Page{Kind: 1, No: 3, Txn: 7, Body: "x"}), metaBytes(api.Meta{Txn: 3, Root: 2, Free: 4, Pages: 6, Limit: 9})
	for range 4000 {
		b := make([]byte, r.Intn(600))
		r.Read(b)
		checkPage(t, string(b))
		checkMeta(t, string(b))
		// Right sums let what is behind them be seen.
		checkPage(t, pageWith(p, r.Intn(24), string(b[:min(len(b), 1+r.Intn(8))])))
		checkMeta(t, metaWith(m, r.Intn(32), string(b[:min(len(b), 1+r.Intn(4))])))
	}
}

func FuzzUnpack(f *testing.F) {
	f.Add("")
	f.Add(bytesOf(api.Page{Kind: 1, No: 3, Txn: 7, Body: "x"}))
	f.Add(metaBytes(api.Meta{Txn: 3, Root: 2, Free: 4, Pages: 6, Limit: 9}))
	f.Fuzz(func(t *testing.T, s string) {
		checkPage(t, s)
		checkMeta(t, s)
		if len(s) == 512 {
			checkPage(t, pageWith(s, 0, ""))
		}
		if len(s) == 128 {
			checkMeta(t, metaWith(s, 0, ""))
		}
		m, i, e := page.Newest(s, s)
		if n, f := page.UnpackMeta(s); m != n || i != 0 || e != f {
			t.Fatalf("Newest(%q, itself) = %+v, %d, error %d", s, m, i, e)
		}
	})
}
