package crc_test

import (
	"encoding/binary"
	"hash/crc32"
	"math"
	"math/bits"
	"strings"
	"testing"

	"rollbook/crc"
)

// sumsToGoOnFrom: some that are no short text's, the ends of their range, and single bits.
func sumsToGoOnFrom() []uint32 {
	sums := []uint32{0, 1, 7, 0x12345678, 0xCBF43926, 0xEDB88320, math.MaxInt32, math.MaxUint32 - 1, math.MaxUint32}
	for bit := range 32 {
		sums = append(sums, 1<<bit, ^uint32(1<<bit))
	}
	return sums
}

// ordinary texts, and those that a slip of the register's ends or of a byte's sign would show.
func ordinary() []string {
	texts := []string{
		"", "a", "ab", "rollbook", "cn=boss", "123456789",
		"\x00", "\x00\x00", "\xff", "\xff\xff", "\xff\x00", "\x00\xff", "\x7f", "\x80", "\x00a", "a\x00",
		"\xff\xff\xff\xff", "\x00\x00\x00\x00", "\xff\xff\xff\xff\xff",
		// No text in UTF-8, and one with runes of more bytes than one: bytes count, not runes.
		"\xc3\x28\x80", "\u00e4\u4e16\U0001f4d2", "\ufffd",
		strings.Repeat("\x00", 512), strings.Repeat("\xff", 512), strings.Repeat("page", 128), strings.Repeat("x", 70001),
	}
	for n := range 70 {
		texts = append(texts, mixed(uint64(n), n))
	}
	return texts
}

// mixed: n bytes of all kinds, always the same for a seed.
func mixed(seed uint64, n int) string {
	b := make([]byte, n)
	x := seed*0x9E3779B97F4A7C15 + 1
	for i := range b {
		x = x*6364136223846793005 + 1442695040888963407
		b[i] = byte(x >> 56)
	}
	return string(b)
}

// register is the chapter's, as a list of bits, the lowest one first.
type register [32]bool

func (r *register) turn(n uint32) {
	for i := range r {
		r[i] = r[i] != (n>>i&1 == 1)
	}
}

func (r *register) step() {
	fell := r[0]
	copy(r[:], r[1:])
	r[31] = false
	if fell {
		r.turn(0xEDB88320)
	}
}

func (r *register) number() uint32 {
	n := uint32(0)
	for i, one := range r {
		if one {
			n |= 1 << i
		}
	}
	return n
}

// byTheWords reckons On as the chapter tells it, bit by bit.
func byTheWords(sum uint32, s string) uint32 {
	var r register
	r.turn(sum)
	r.turn(math.MaxUint32)
	for _, b := range []byte(s) {
		r.turn(uint32(b))
		for range 8 {
			r.step()
		}
	}
	r.turn(math.MaxUint32)
	return r.number()
}

func TestSumExamples(t *testing.T) {
	for _, x := range []struct {
		s    string
		want uint32
	}{
		{"123456789", 0xCBF43926},
		{"", 0},
		{"a", 0xE8B7BE43},
		{"abc", 0x352441C2},
		{"\x00", 0xD202EF8D},
		{"\xff", 0xFF000000},
		{"\x00\x00\x00\x00", 0x2144DF1C},
		{"\xff\xff\xff\xff", 0xFFFFFFFF},
		{"The quick brown fox jumps over the lazy dog", 0x414FA339},
	} {
		if n := crc.Sum(x.s); n != x.want {
			t.Errorf("Sum(%q) = %08X, not %08X", x.s, n, x.want)
		}
	}
}

func TestSumOfEachByte(t *testing.T) {
	for b := range 256 {
		s := string([]byte{byte(b)})
		want := byTheWords(0, s)
		if n := crc.Sum(s); n != want || n != crc32.ChecksumIEEE([]byte(s)) {
			t.Errorf("Sum(%q) = %08X, not %08X", s, n, want)
		}
	}
}

func TestSumIsAsTheWordsSay(t *testing.T) {
	for _, s := range ordinary() {
		want := byTheWords(0, s)
		if n := crc.Sum(s); n != want || n != crc32.ChecksumIEEE([]byte(s)) {
			t.Errorf("Sum(%.20q) of %d bytes = %08X, not %08X", s, len(s), n, want)
		}
	}
}

func TestOnExamples(t *testing.T) {
	for _, x := range []struct {
		sum  uint32
		s    string
		want uint32
	}{
		{0, "123456789", 0xCBF43926},
		{0, "", 0},
		{0x9BE3E0A3, "56789", 0xCBF43926}, // behind 1234
		{0xE8B7BE43, "bc", 0x352441C2},    // behind a
		{7, "", 7},
		{math.MaxUint32, "", math.MaxUint32},
		// The register is without ones, and stays so.
		{math.MaxUint32, "\x00", math.MaxUint32},
		{math.MaxUint32, "\x00\x00\x00\x00\x00", math.MaxUint32},
	} {
		if n := crc.On(x.sum, x.s); n != x.want {
			t.Errorf("On(%08X, %q) = %08X, not %08X", x.sum, x.s, n, x.want)
		}
	}
}

func TestOnFromAnySum(t *testing.T) {
	for _, sum := range sumsToGoOnFrom() {
		if n := crc.On(sum, ""); n != sum {
			t.Errorf("On(%08X, nothing) = %08X", sum, n)
		}
		for b := range 256 {
			s := string([]byte{byte(b)})
			if n, want := crc.On(sum, s), byTheWords(sum, s); n != want {
				t.Errorf("On(%08X, %q) = %08X, not %08X", sum, s, n, want)
			}
		}
		for _, s := range ordinary() {
			want := crc32.Update(sum, crc32.IEEETable, []byte(s))
			if n := crc.On(sum, s); n != want {
				t.Errorf("On(%08X, %.20q) = %08X, not %08X", sum, s, n, want)
			}
		}
	}
}

func TestOnHangsOnWhatItIsHandedAlone(t *testing.T) {
	first := crc.Sum("rollbook")
	crc.On(3, "something else")
	crc.Sum("\xff")
	if n := crc.Sum("rollbook"); n != first {
		t.Errorf("Sum(rollbook) = %08X, and then %08X", first, n)
	}
}

func TestOnIsTheSumOfBothTogether(t *testing.T) {
	texts := ordinary()
	for _, a := range texts {
		for _, b := range texts {
			if len(a)+len(b) > 1200 {
				continue
			}
			if n, want := crc.On(crc.Sum(a), b), crc.Sum(a+b); n != want {
				t.Errorf("On(Sum(%.20q), %.20q) = %08X, not %08X", a, b, n, want)
			}
		}
	}
	whole := mixed(11, 3000)
	for cut := range len(whole) + 1 {
		if n, want := crc.On(crc.Sum(whole[:cut]), whole[cut:]), crc.Sum(whole); n != want {
			t.Errorf("cut at %d: %08X, not %08X", cut, n, want)
		}
	}
}

// turnedAt: a text with bits turned in the bytes from a place on, where turns has ones.
func turnedAt(s string, at int, turns string) string {
	b := []byte(s)
	for i := range len(turns) {
		b[at+i] ^= turns[i]
	}
	return string(b)
}

// placesOf n neighbouring bytes: at a text's beginning, within it, and at its end.
func placesOf(n, length int) []int {
	return []int{0, 1, (length - n) / 2, length - n - 1, length - n}
}

// turnsOf n bytes: of one byte all, of more each bit, each two bits, and many of all kinds.
func turnsOf(n int) []string {
	var all []string
	add := func(x uint32) {
		var b [4]byte
		binary.LittleEndian.PutUint32(b[:], x)
		all = append(all, string(b[:n]))
	}
	if n == 1 {
		for x := range uint32(256) {
			add(x)
		}
		return all
	}
	for i := range 8 * n {
		for j := range i + 1 {
			add(1<<i | 1<<j)
		}
	}
	for seed := range uint64(300) {
		all = append(all, mixed(seed, n))
	}
	// What a step turns, at each of its shifts: the likeliest to be lost.
	for shift := range 32 {
		add(bits.RotateLeft32(0xEDB88320, shift))
		add(0xEDB88320 >> shift)
		add(0xEDB88320 << shift)
	}
	return append(all, strings.Repeat("\xff", n))
}

func TestSumsOfNeighbouringBytesDiffer(t *testing.T) {
	for _, s := range []string{mixed(5, 4), mixed(6, 9), strings.Repeat("\x00", 24), strings.Repeat("\xff", 24), mixed(7, 128), mixed(8, 512)} {
		sum := crc.Sum(s)
		for n := 1; n <= 4; n++ {
			for _, at := range placesOf(n, len(s)) {
				if at < 0 || at+n > len(s) {
					continue
				}
				for _, turns := range turnsOf(n) {
					other := turnedAt(s, at, turns)
					if other != s && crc.Sum(other) == sum {
						t.Fatalf("%d bytes, %q turned at %d: both are %08X", len(s), turns, at, sum)
					}
				}
			}
		}
	}
}

func TestSumsOfShortTextsAllDiffer(t *testing.T) {
	seen := make(map[uint32]int)
	for x := range 1 << 16 {
		n := crc.Sum(string([]byte{byte(x), byte(x >> 8)}))
		if before, ok := seen[n]; ok {
			t.Fatalf("%04X and %04X: both are %08X", before, x, n)
		}
		seen[n] = x
	}
}

// rank: how many of the numbers can't be made of the others by turning bits where these have ones.
func rank(numbers []uint32) int {
	var byTop [33]uint32
	n := 0
	for _, x := range numbers {
		for x != 0 && byTop[bits.Len32(x)] != 0 {
			x ^= byTop[bits.Len32(x)]
		}
		if x != 0 {
			byTop[bits.Len32(x)] = x
			n++
		}
	}
	return n
}

// Which bits of the sum change hangs on which bits of the text do, bit for bit: where the 32 bits of four bytes change it in ways none of which the others make up, no turn of them is lost.
func TestNoTurnOfFourBytesIsLost(t *testing.T) {
	for _, length := range []int{4, 5, 9, 128, 512} {
		s := mixed(9, length)
		sum := crc.Sum(s)
		for at := range length - 3 {
			var changes []uint32
			for bit := range 32 {
				turns := strings.Repeat("\x00", bit/8) + string([]byte{1 << (bit % 8)})
				changes = append(changes, crc.Sum(turnedAt(s, at, turns))^sum)
			}
			if n := rank(changes); n != 32 {
				t.Fatalf("%d bytes, four from %d on: %d of 32 bits", length, at, n)
			}
		}
	}
}

// The change is the sum of its parts' changes: what the test above stands on.
func TestChangesOfSumsAddUp(t *testing.T) {
	for seed := range uint64(200) {
		length := int(seed%40) + 1
		s, one, two := mixed(seed, length), mixed(seed+500, length), mixed(seed+900, length)
		change := func(turns string) uint32 { return crc.Sum(turnedAt(s, 0, turns)) ^ crc.Sum(s) }
		if n, want := change(turnedAt(one, 0, two)), change(one)^change(two); n != want {
			t.Fatalf("%q and %q turned in %q: %08X, not %08X", one, two, s, n, want)
		}
	}
}

func FuzzOn(f *testing.F) {
	f.Add(uint32(0), "1234", "56789")
	f.Add(uint32(7), "", "")
	f.Add(uint32(math.MaxUint32), "\x00", "\xff")
	f.Fuzz(func(t *testing.T, sum uint32, a, b string) {
		if n, want := crc.On(sum, a), crc32.Update(sum, crc32.IEEETable, []byte(a)); n != want {
			t.Errorf("On(%08X, %q) = %08X, not %08X", sum, a, n, want)
		}
		if n, want := crc.On(crc.On(sum, a), b), crc.On(sum, a+b); n != want {
			t.Errorf("On(%08X, %q) and on with %q = %08X, not %08X", sum, a, b, n, want)
		}
	})
}
