package field_test

import (
	"math"
	"math/big"
	"slices"
	"strings"
	"testing"

	"rollbook/api"
	"rollbook/field"
)

func TestPutLaysTheHighestByteFirst(t *testing.T) {
	for _, x := range []struct {
		s    string
		n    uint64
		size int
		want string
	}{
		{"x", 258, 2, "x\x01\x02"},
		{"", 0, 1, "\x00"},
		{"", 255, 1, "\xff"},
		{"ab", 7, 4, "ab\x00\x00\x00\x07"},
		{"", 65535, 2, "\xff\xff"},
		{"", 0x0102030405060708, 8, "\x01\x02\x03\x04\x05\x06\x07\x08"},
		{"\x00", 0, 8, "\x00\x00\x00\x00\x00\x00\x00\x00\x00"},
		{"", math.MaxUint64, 8, "\xff\xff\xff\xff\xff\xff\xff\xff"},
	} {
		if s, e := field.Put(x.s, x.n, x.size); s != x.want || e != api.OK {
			t.Errorf("Put(%q, %d, %d) = %q, %d", x.s, x.n, x.size, s, e)
		}
	}
}

// greatestOf: the greatest number that fits, reckoned by other means than shifts.
func greatestOf(size int) uint64 {
	n := new(big.Int).Exp(big.NewInt(256), big.NewInt(int64(size)), nil)
	return n.Sub(n, big.NewInt(1)).Uint64()
}

func TestPutTakesWhatJustFits(t *testing.T) {
	for size := 1; size <= 8; size++ {
		n := greatestOf(size)
		if s, e := field.Put("ab", n, size); s != "ab"+strings.Repeat("\xff", size) || e != api.OK {
			t.Errorf("Put of %d in %d bytes: %q, %d", n, size, s, e)
		}
		if size == 8 {
			break
		}
		for _, over := range []uint64{n + 1, n + 2, math.MaxUint64} {
			if s, e := field.Put("ab", over, size); s != "" || e != api.ErrArg {
				t.Errorf("Put of %d in %d bytes: %q, %d", over, size, s, e)
			}
		}
	}
}

func TestPutRefusesSizes(t *testing.T) {
	for _, size := range []int{0, -1, 9, 10, 64, math.MaxInt, math.MinInt, math.MaxInt / 8, -8} {
		for _, n := range []uint64{0, 1, math.MaxUint64} {
			if s, e := field.Put("ab", n, size); s != "" || e != api.ErrArg {
				t.Errorf("Put of %d in %d bytes: %q, %d", n, size, s, e)
			}
		}
	}
}

func TestTakeReadsTheHighestByteFirst(t *testing.T) {
	for _, x := range []struct {
		s    string
		at   int
		size int
		want uint64
	}{
		{"\x09\x01\x02", 1, 2, 258},
		{"\x09\x01\x02", 0, 2, 0x0901},
		{"\x09\x01\x02", 2, 1, 2},
		{"\x01\x02\x03\x04\x05\x06\x07\x08", 0, 8, 0x0102030405060708},
		{"\x01\x02\x03\x04\x05\x06\x07\x08", 0, 7, 0x01020304050607},
		{"a\xff\xff\xff\xff\xff\xff\xff\xffb", 1, 8, math.MaxUint64},
	} {
		if n, e := field.Take(x.s, x.at, x.size); n != x.want || e != api.OK {
			t.Errorf("Take(%q, %d, %d) = %d, %d", x.s, x.at, x.size, n, e)
		}
	}
}

func TestTakeTellsWhatWasPut(t *testing.T) {
	for size := 1; size <= 8; size++ {
		top := greatestOf(size)
		for _, n := range []uint64{0, 1, 127, 128, 255, top / 2, top/2 + 1, top - 1, top} {
			s, _ := field.Put("abc", n, size)
			if m, e := field.Take(s+"d", 3, size); m != n || e != api.OK {
				t.Errorf("%d in %d bytes is read as %d, %d", n, size, m, e)
			}
		}
	}
}

func TestTakeErrors(t *testing.T) {
	eight := "\x01\x02\x03\x04\x05\x06\x07\x08"
	for _, x := range []struct {
		s    string
		at   int
		size int
		want api.Errno
	}{
		{eight, 0, 0, api.ErrArg},
		{eight + "\x09", 0, 9, api.ErrArg},
		{eight, 0, -1, api.ErrArg},
		{eight, 0, math.MaxInt, api.ErrArg},
		{eight, 0, math.MinInt, api.ErrArg},
		{eight, -1, 1, api.ErrArg},
		{eight, math.MinInt, 1, api.ErrArg},
		{eight, 8, 0, api.ErrArg},
		{"", -1, 8, api.ErrArg},
		{"", 0, 9, api.ErrArg},
		{"", 0, 1, api.ErrShort},
		{eight, 8, 1, api.ErrShort},
		{eight, 9, 1, api.ErrShort},
		{eight, 7, 2, api.ErrShort},
		{eight, 1, 8, api.ErrShort},
		{eight, math.MaxInt, 1, api.ErrShort},
		{eight, math.MaxInt, 8, api.ErrShort},
	} {
		if n, e := field.Take(x.s, x.at, x.size); n != 0 || e != x.want {
			t.Errorf("Take(%q, %d, %d) = %d, %d; not %d", x.s, x.at, x.size, n, e, x.want)
		}
	}
}

func TestTextLaysTheLengthAhead(t *testing.T) {
	for _, x := range []struct{ s, t, want string }{
		{"x", "ab", "x\x00\x02ab"},
		{"", "", "\x00\x00"},
		{"x", "", "x\x00\x00"},
		{"", "\x00\x01\xff", "\x00\x03\x00\x01\xff"},
		{"", strings.Repeat("a", 256), "\x01\x00" + strings.Repeat("a", 256)},
		{"b", strings.Repeat("a", 65535), "b\xff\xff" + strings.Repeat("a", 65535)},
	} {
		if s, e := field.Text(x.s, x.t); s != x.want || e != api.OK {
			t.Errorf("Text of %d bytes behind %q: %.20q, %d", len(x.t), x.s, s, e)
		}
	}
	for _, n := range []int{65536, 65537, 1 << 17} {
		if s, e := field.Text("x", strings.Repeat("a", n)); s != "" || e != api.ErrLong {
			t.Errorf("Text of %d bytes: %.20q, %d", n, s, e)
		}
	}
}

func TestTakeTextTellsWhatWasLaid(t *testing.T) {
	for _, u := range []string{"", "a", "\x00\x01\xff", strings.Repeat("b", 255), strings.Repeat("b", 256), strings.Repeat("b", 65535)} {
		for _, ahead := range []string{"", "x", "xyz"} {
			s, _ := field.Text(ahead, u)
			for _, behind := range []string{"", "c"} {
				got, to, e := field.TakeText(s+behind, len(ahead))
				if got != u || to != len(s) || e != api.OK {
					t.Errorf("a text of %d bytes is read as %.20q to %d, %d", len(u), got, to, e)
				}
			}
			short, to, e := field.TakeText(s[:len(s)-1], len(ahead))
			if short != "" || to != 0 || e != api.ErrShort {
				t.Errorf("a text of %d bytes, less one: %.20q to %d, %d", len(u), short, to, e)
			}
		}
	}
}

func TestTakeTextErrors(t *testing.T) {
	for _, x := range []struct {
		s    string
		at   int
		want api.Errno
	}{
		{"\x00\x01a", -1, api.ErrArg},
		{"", -1, api.ErrArg},
		{"\x00\x01a", math.MinInt, api.ErrArg},
		{"", 0, api.ErrShort},
		{"\x00", 0, api.ErrShort},
		{"\x00\x01", 0, api.ErrShort},
		{"\x00\x01a", 2, api.ErrShort},
		{"\x00\x01a", 3, api.ErrShort},
		{"\x00\x01a", 4, api.ErrShort},
		{"\x00\x00", 1, api.ErrShort},
		{"\x01\x00a", 0, api.ErrShort},
		{"\xff\xff" + strings.Repeat("a", 65534), 0, api.ErrShort},
		{"\x00\x01a", math.MaxInt, api.ErrShort},
		{"\x00\x01a", math.MaxInt - 1, api.ErrShort},
	} {
		if u, to, e := field.TakeText(x.s, x.at); u != "" || to != 0 || e != x.want {
			t.Errorf("TakeText(%.20q, %d) = %.20q, %d, %d; not %d", x.s, x.at, u, to, e, x.want)
		}
	}
}

func TestTupleLaysParts(t *testing.T) {
	for _, x := range []struct {
		parts []string
		want  string
	}{
		{nil, ""},
		{[]string{}, ""},
		{[]string{""}, "\x00\x01"},
		{[]string{"", ""}, "\x00\x01\x00\x01"},
		{[]string{"a", ""}, "a\x00\x01\x00\x01"},
		{[]string{"", "a"}, "\x00\x01a\x00\x01"},
		{[]string{"ab", "c"}, "ab\x00\x01c\x00\x01"},
		{[]string{"\x00"}, "\x00\xff\x00\x01"},
		{[]string{"\x01"}, "\x01\x00\x01"},
		{[]string{"\xff"}, "\xff\x00\x01"},
		{[]string{"\x00\x01"}, "\x00\xff\x01\x00\x01"},
		{[]string{"\x00\xff\x01\x00\x00"}, "\x00\xff\xff\x01\x00\xff\x00\xff\x00\x01"},
		{[]string{"a\x00", "\x00b"}, "a\x00\xff\x00\x01\x00\xffb\x00\x01"},
		{[]string{"\xc3\xa9"}, "\xc3\xa9\x00\x01"},
		{make([]string, 16), strings.Repeat("\x00\x01", 16)},
	} {
		s, e := field.Tuple(x.parts)
		if s != x.want || e != api.OK {
			t.Errorf("Tuple(%q) = %q, %d", x.parts, s, e)
		}
		if l, e := field.Parts(x.want); !slices.Equal(l, x.parts) || e != api.OK {
			t.Errorf("Parts(%q) = %q, %d", x.want, l, e)
		}
	}
}

func TestTupleLimits(t *testing.T) {
	noughts := func(n int) string { return strings.Repeat("\x00", n) }
	letters := func(n int) string { return strings.Repeat("a", n) }
	for _, x := range []struct {
		name  string
		parts []string
		want  api.Errno
	}{
		{"4096 bytes", []string{letters(4094)}, api.OK},
		{"4097 bytes", []string{letters(4095)}, api.ErrLong},
		{"4096 bytes of two", []string{letters(2000), letters(2092)}, api.OK},
		{"4097 bytes of two", []string{letters(2000), letters(2093)}, api.ErrLong},
		{"4096 bytes of noughts", []string{noughts(2047)}, api.OK},
		{"4097 bytes of noughts and a letter", []string{noughts(2047) + "a"}, api.ErrLong},
		{"4098 bytes of noughts", []string{noughts(2048)}, api.ErrLong},
		{"a part of 4096", []string{letters(4096)}, api.ErrLong},
		{"a part of 4097", []string{letters(4097)}, api.ErrLong},
		{"a part of 1000000", []string{"", letters(1000000), ""}, api.ErrLong},
		{"16 parts of 4096 bytes", append(make([]string, 15), letters(4064)), api.OK},
		{"16 parts of 4097 bytes", append(make([]string, 15), letters(4065)), api.ErrLong},
		{"17 parts", make([]string, 17), api.ErrArg},
		{"17 parts that are long", append(make([]string, 16), letters(5000)), api.ErrArg},
		{"1000 parts", make([]string, 1000), api.ErrArg},
	} {
		s, e := field.Tuple(x.parts)
		if e != x.want {
			t.Errorf("%s: %d, not %d", x.name, e, x.want)
		}
		if e != api.OK {
			if s != "" {
				t.Errorf("%s: an error and %.20q", x.name, s)
			}
			continue
		}
		if l, e := field.Parts(s); !slices.Equal(l, x.parts) || e != api.OK {
			t.Errorf("%s: read as %d parts, %d", x.name, len(l), e)
		}
	}
}

func TestPartsOfNoTuple(t *testing.T) {
	end := "\x00\x01"
	for _, s := range []string{
		"a", "\x00", "\x01", "\xff", "ab", "\x00\x00", "\x00\x02", "\x00\xfe", "\x00a",
		"a\x00", "a\x00\xff", "\x00\xff", "a\x00\x00\x01", "a\x00\x02" + end, "\x01\x00",
		end + "b", end + "\x00", end + "\x00\xff", end + "\x00\x02", "a" + end + "b\x00",
		strings.Repeat(end, 17),
		strings.Repeat(end, 16) + "a",
		strings.Repeat(end, 16) + "\x00",
		strings.Repeat("a"+end, 17),
		strings.Repeat("a", 4095) + end,
		strings.Repeat("a", 4096) + end,
		strings.Repeat("a", 4096),
		strings.Repeat("a", 4097),
		strings.Repeat("\x00\xff", 2048) + end,
	} {
		if l, e := field.Parts(s); len(l) != 0 || e != api.ErrForm {
			t.Errorf("Parts(%.40q) = %d parts, %d", s, len(l), e)
		}
	}
}

func TestCompareExamples(t *testing.T) {
	for _, x := range []struct {
		a, b []string
		want int
	}{
		{nil, nil, 0},
		{nil, []string{}, 0},
		{nil, []string{""}, -1},
		{[]string{""}, []string{"", ""}, -1},
		{[]string{"a"}, []string{"a"}, 0},
		{[]string{"a"}, []string{"b"}, -1},
		{[]string{"a"}, []string{"a", ""}, -1},
		{[]string{"a"}, []string{"ab"}, -1},
		{[]string{"ab"}, []string{"a", "c"}, 1},
		{[]string{"a", "b"}, []string{"a", "a", "z"}, 1},
		{[]string{"a\x00"}, []string{"a"}, 1},
		{[]string{"\x00"}, []string{"\x01"}, -1},
		{[]string{"\x7f"}, []string{"\x80"}, -1},
		{[]string{"\xff"}, []string{"\x00\xff"}, 1},
		{[]string{"z"}, []string{"\xc3\xa9"}, -1},
		{make([]string, 17), make([]string, 18), -1},
		{[]string{strings.Repeat("a", 5000) + "b"}, []string{strings.Repeat("a", 5000) + "c"}, -1},
	} {
		if got := field.Compare(x.a, x.b); got != x.want {
			t.Errorf("Compare(%.40q, %.40q) = %d", x.a, x.b, got)
		}
		if got := field.Compare(x.b, x.a); got != -x.want {
			t.Errorf("Compare(%.40q, %.40q) = %d", x.b, x.a, got)
		}
	}
}

// textsOf: all texts of at most n of these bytes.
func textsOf(bytes string, n int) []string {
	all := []string{""}
	for from := 0; n > 0; n-- {
		to := len(all)
		for _, s := range all[from:to] {
			for i := range len(bytes) {
				all = append(all, s+bytes[i:i+1])
			}
		}
		from = to
	}
	return all
}

// listsOf: all lists of at most n of these texts.
func listsOf(texts []string, n int) [][]string {
	all := [][]string{nil}
	for from := 0; n > 0; n-- {
		to := len(all)
		for _, l := range all[from:to] {
			for _, s := range texts {
				all = append(all, append(slices.Clone(l), s))
			}
		}
		from = to
	}
	return all
}

// order is the chapter's: byte by byte, part by part, what ends first first.
func order(a, b []string) int {
	for i := 0; ; i++ {
		switch {
		case i == len(a) && i == len(b):
			return 0
		case i == len(a):
			return -1
		case i == len(b):
			return 1
		}
		for j := 0; ; j++ {
			if j == len(a[i]) && j == len(b[i]) {
				break
			}
			if j == len(a[i]) || j < len(b[i]) && a[i][j] < b[i][j] {
				return -1
			}
			if j == len(b[i]) || a[i][j] > b[i][j] {
				return 1
			}
		}
	}
}

func begins(a, b []string) bool {
	return len(a) <= len(b) && slices.Equal(a, b[:len(a)])
}

func TestTuplesStandInTheOrderOfTheirLists(t *testing.T) {
	lists := listsOf(textsOf("\x00\x01\x02\xff", 2), 2)
	lists = append(lists, listsOf([]string{"", "\x00", "\x01", "\xff"}, 4)...)
	tuples := make([]string, len(lists))
	for i, l := range lists {
		s, e := field.Tuple(l)
		if e != api.OK {
			t.Fatalf("Tuple(%q): %d", l, e)
		}
		if back, e := field.Parts(s); !slices.Equal(back, l) || e != api.OK {
			t.Fatalf("Parts(%q) = %q, %d; not %q", s, back, e, l)
		}
		tuples[i] = s
	}
	for i, a := range lists {
		for j, b := range lists {
			want := order(a, b)
			if got := field.Compare(a, b); got != want {
				t.Fatalf("Compare(%q, %q) = %d", a, b, got)
			}
			if got := strings.Compare(tuples[i], tuples[j]); got != want {
				t.Fatalf("the tuples of %q and %q stand as %d", a, b, got)
			}
			if strings.HasPrefix(tuples[j], tuples[i]) != begins(a, b) {
				t.Fatalf("the tuples of %q and %q don't begin as the lists do", a, b)
			}
		}
	}
}

func TestPartsTakesTuplesAlone(t *testing.T) {
	for _, s := range textsOf("\x00\x01\x02\xff", 6) {
		l, e := field.Parts(s)
		if e != api.OK {
			if e != api.ErrForm || len(l) != 0 {
				t.Fatalf("Parts(%q) = %q, %d", s, l, e)
			}
			continue
		}
		if again, e := field.Tuple(l); again != s || e != api.OK {
			t.Fatalf("Parts(%q) = %q, whose tuple is %q, %d", s, l, again, e)
		}
	}
}

func TestAfterExamples(t *testing.T) {
	for _, x := range []struct {
		s, want string
		ok      bool
	}{
		{"a\xff", "b", true},
		{"a", "b", true},
		{"ab", "ac", true},
		{"\x00", "\x01", true},
		{"\xfe", "\xff", true},
		{"a\xff\xff", "b", true},
		{"\xffa\xff", "\xffb", true},
		{"a\x00", "a\x01", true},
		{"\xff\x00", "\xff\x01", true},
		{strings.Repeat("\xff", 5000) + "a", strings.Repeat("\xff", 5000) + "b", true},
		{"", "", false},
		{"\xff", "", false},
		{"\xff\xff", "", false},
		{strings.Repeat("\xff", 5000), "", false},
	} {
		if got, ok := field.After(x.s); got != x.want || ok != x.ok {
			t.Errorf("After(%.20q) = %.20q, %v", x.s, got, ok)
		}
	}
}

func TestAfterIsTheLeastThatIsGreater(t *testing.T) {
	texts := textsOf("\x00\x01a\xfe\xff", 3)
	for _, s := range texts {
		after, ok := field.After(s)
		// No text here has as many bytes: it stands behind all of them that begin with s.
		far := s + strings.Repeat("\xff", 8)
		for _, x := range texts {
			if ok && strings.HasPrefix(x, s) && x >= after {
				t.Fatalf("After(%q) = %q is not above %q", s, after, x)
			}
			if ok && x < after && x > far {
				t.Fatalf("After(%q) = %q is not the least: %q", s, after, x)
			}
			if !ok && x > far {
				t.Fatalf("After(%q) tells nothing, but there is %q", s, x)
			}
		}
	}
}

func TestNothingHandedInIsChangedOrShared(t *testing.T) {
	parts := []string{"a\x00", "b", "c"}
	if _, e := field.Tuple(parts[:2]); e != api.OK || !slices.Equal(parts, []string{"a\x00", "b", "c"}) {
		t.Errorf("Tuple left %q, %d", parts, e)
	}
	other := []string{"a\x00", "c", "d"}
	field.Compare(parts[:2], other[:1])
	if !slices.Equal(parts, []string{"a\x00", "b", "c"}) || !slices.Equal(other, []string{"a\x00", "c", "d"}) {
		t.Errorf("Compare left %q and %q", parts, other)
	}
	one, _ := field.Parts("a\x00\x01b\x00\x01")
	two, _ := field.Parts("a\x00\x01b\x00\x01")
	if len(one) != 2 || len(two) != 2 {
		t.Fatalf("%q, %q", one, two)
	}
	one[0] = "z"
	if two[0] != "a" {
		t.Errorf("two answers share their list: %q", two)
	}
}

func FuzzPartsAndTuple(f *testing.F) {
	for _, s := range []string{"", "a", "\x00\x01", "a\x00\xff\x00\x01", "\x00\x02", strings.Repeat("\x00\x01", 17)} {
		f.Add(s)
	}
	f.Fuzz(func(t *testing.T, s string) {
		l, e := field.Parts(s)
		if e == api.OK {
			if again, e := field.Tuple(l); again != s || e != api.OK {
				t.Errorf("Parts(%q) = %q, whose tuple is %q, %d", s, l, again, e)
			}
		}
		one, e := field.Tuple([]string{s, s})
		if e != api.OK {
			return
		}
		if l, e := field.Parts(one); !slices.Equal(l, []string{s, s}) || e != api.OK {
			t.Errorf("Parts(%q) = %q, %d", one, l, e)
		}
	})
}
