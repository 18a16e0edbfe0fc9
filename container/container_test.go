package container_test

import (
	"bytes"
	"hash/crc32"
	"math"
	"math/rand"
	"slices"
	"sync"
	"testing"

	"mirtower/api"
	"mirtower/container"
)

// section is short for the type of the package.
type section = container.Section

// head returns the five bytes in front of the sections, in new memory.
func head() []byte { return []byte{'M', 'I', 'R', 'T', 1} }

// join returns the concatenation of strings of bytes in new memory.
func join(parts ...[]byte) []byte { return slices.Concat(parts...) }

// repeat returns a number of equal bytes.
func repeat(c byte, n int) []byte { return bytes.Repeat([]byte{c}, n) }

// encoding encodes a number by division, as chapter 1 defines the groups.
func encoding(n uint64) []byte {
	var out []byte
	for n >= 128 {
		out = append(out, byte(n%128)+128)
		n /= 128
	}
	return append(out, byte(n))
}

// decode reads an encoding at the beginning of a string of bytes; it returns the number and the bytes behind it.
func decode(b []byte) (uint64, []byte, api.Errno) {
	var n uint64
	for i, c := range b {
		if i == 9 && c > 1 {
			return 0, nil, api.ErrOverflow
		}
		n += uint64(c%128) << (7 * i)
		if c >= 128 {
			continue
		}
		if c == 0 && i > 0 {
			return 0, nil, api.ErrMinimal
		}
		return n, b[i+1:], api.OK
	}
	return 0, nil, api.ErrEOF
}

// checksum returns the four bytes of the checksum of data, the least significant one first.
func checksum(data []byte) []byte {
	sum := crc32.ChecksumIEEE(data)
	return []byte{byte(sum), byte(sum / 0x100), byte(sum / 0x10000), byte(sum / 0x1000000)}
}

// framed returns a framed section; its identifier need not be permitted.
func framed(id byte, data []byte) []byte {
	return join([]byte{id}, encoding(uint64(len(data))), data, checksum(data))
}

// reference returns the container with sections, as the chapter words it, and the spans of their data.
func reference(sections []section) ([]byte, [][2]int) {
	b := head()
	var spans [][2]int
	for _, s := range sections {
		b = join(b, framed(byte(s.ID), s.Data))
		to := len(b) - 4
		spans = append(spans, [2]int{to - len(s.Data), to})
	}
	return b, spans
}

// model reads a container as the chapter words it.
func model(b []byte) ([]section, api.Errno) {
	if len(b) < 4 || string(b[:4]) != "MIRT" {
		return nil, api.ErrMagic
	}
	if len(b) == 4 {
		return nil, api.ErrEOF
	}
	if b[4] != 1 {
		return nil, api.ErrVersion
	}
	var sections []section
	before := 0
	for rest := b[5:]; len(rest) > 0; {
		id := int(rest[0])
		if id < 1 || id > 127 || id <= before {
			return nil, api.ErrSection
		}
		n, behind, e := decode(rest[1:])
		if e != api.OK {
			return nil, e
		}
		if n > math.MaxInt32 || len(behind) < int(n)+4 {
			return nil, api.ErrEOF
		}
		if !bytes.Equal(behind[n:n+4], checksum(behind[:n])) {
			return nil, api.ErrCRC
		}
		sections = append(sections, section{ID: id, Data: behind[:n]})
		rest, before = behind[n+4:], id
	}
	return sections, api.OK
}

// lists returns lists of sections that a container may have: none, all identifiers, the least and the greatest ones, and data whose lengths need one to three groups.
func lists() [][]section {
	l := [][]section{nil, {}, {{1, nil}}, {{127, nil}}, {{1, []byte{}}, {127, []byte("x")}}, {{3, nil}}}
	var all []section
	for id := 1; id <= 127; id++ {
		all = append(all, section{id, repeat(byte(id), id%5)})
	}
	l = append(l, all)
	r := rand.New(rand.NewSource(1))
	for _, n := range []int{0, 1, 2, 3, 4, 5, 126, 127, 128, 129, 255, 256, 16383, 16384, 70000} {
		l = append(l, []section{{7, repeat(0, n)}}, []section{{2, repeat(0xff, n)}, {9, arbitrary(r, n)}, {100, []byte("end")}})
	}
	for range 200 {
		l = append(l, arbitrarySections(r))
	}
	// The data of a section may itself look like a container.
	inner, _ := reference(all)
	return append(l, []section{{4, inner}, {5, head()}, {6, framed(7, nil)}})
}

// arbitrary returns a number of arbitrary bytes.
func arbitrary(r *rand.Rand, n int) []byte {
	b := make([]byte, n)
	r.Read(b)
	return b
}

// arbitrarySections returns sections with arbitrary identifiers that are permitted and arbitrary data.
func arbitrarySections(r *rand.Rand) []section {
	var l []section
	for id := 1 + r.Intn(40); id <= 127; id += 1 + r.Intn(40) {
		l = append(l, section{id, arbitrary(r, r.Intn(200))})
	}
	return l
}

// invert returns a copy of a string of bytes in which the bits of a pattern are inverted from a bit on.
func invert(b []byte, from int, pattern uint32) []byte {
	out := bytes.Clone(b)
	for i := range 32 {
		if pattern>>i&1 == 1 {
			out[(from+i)/8] ^= 1 << ((from + i) % 8)
		}
	}
	return out
}

// sameSections reports whether two lists of sections are equal; empty data may be nil or not.
func sameSections(a, b []section) bool {
	return slices.EqualFunc(a, b, func(x, y section) bool { return x.ID == y.ID && bytes.Equal(x.Data, y.Data) })
}

// checkWrite checks that Write returns a container.
func checkWrite(t *testing.T, sections []section, want []byte) {
	t.Helper()
	if got, e := container.Write(sections...); e != api.OK || !bytes.Equal(got, want) {
		t.Errorf("Write of %d sections = %.60x, %v; want %.60x", len(sections), got, e, want)
	}
}

// checkNotWritten checks that Write returns nothing and ErrArg.
func checkNotWritten(t *testing.T, sections ...section) {
	t.Helper()
	if got, e := container.Write(sections...); e != api.ErrArg || len(got) != 0 {
		t.Errorf("Write(%v) = %.60x, %v", sections, got, e)
	}
}

// checkRead checks that Read and Spans return sections and the places of their data.
func checkRead(t *testing.T, b []byte, sections []section, spans [][2]int) {
	t.Helper()
	if got, e := container.Read(b); e != api.OK || !sameSections(got, sections) {
		t.Errorf("Read(%.60x) = %d sections, %v; want %d", b, len(got), e, len(sections))
	}
	if got, e := container.Spans(b); e != api.OK || !slices.Equal(got, spans) {
		t.Errorf("Spans(%.60x) = %v, %v; want %v", b, got, e, spans)
	}
}

// checkError checks that Read and Spans return an error and nothing else.
func checkError(t *testing.T, b []byte, want api.Errno) {
	t.Helper()
	if got, e := container.Read(b); e != want || len(got) != 0 {
		t.Errorf("Read(%.60x) = %d sections, %v; want %v", b, len(got), e, want)
	}
	if got, e := container.Spans(b); e != want || len(got) != 0 {
		t.Errorf("Spans(%.60x) = %v, %v; want %v", b, got, e, want)
	}
}

// checkModel compares Read and Spans with the model, and the container with what Write makes of the sections.
func checkModel(t *testing.T, b []byte) {
	t.Helper()
	sections, e := model(b)
	if e != api.OK {
		checkError(t, b, e)
		return
	}
	_, spans := reference(sections)
	checkRead(t, b, sections, spans)
	checkWrite(t, sections, b)
}

// P4.1: containers that are written out, those of the chapter among them.
func TestWriteExamples(t *testing.T) {
	if container.Version != 1 {
		t.Errorf("version %d", container.Version)
	}
	for _, c := range []struct {
		sections []section
		want     string
	}{
		{nil, "MIRT\x01"},
		{[]section{{3, nil}}, "MIRT\x01\x03\x00\x00\x00\x00\x00"},
		{[]section{{1, []byte{}}}, "MIRT\x01\x01\x00\x00\x00\x00\x00"},
		{[]section{{127, []byte("123456789")}}, "MIRT\x01\x7f\x09123456789\x26\x39\xf4\xcb"},
		{[]section{{1, []byte{0}}, {2, nil}, {5, []byte("a")}}, "MIRT\x01\x01\x01\x00\x8d\xef\x02\xd2\x02\x00\x00\x00\x00\x00\x05\x01a\x43\xbe\xb7\xe8"},
	} {
		checkWrite(t, c.sections, []byte(c.want))
	}
	long := repeat('x', 300)
	checkWrite(t, []section{{9, long}}, join(head(), []byte{9, 0xac, 2}, long, checksum(long)))
}

// P4.1: sections of all identifiers and of many lengths.
func TestWriteAgainstReference(t *testing.T) {
	for _, sections := range lists() {
		want, _ := reference(sections)
		checkWrite(t, sections, want)
	}
}

// P4.1: identifiers out of range, in the only section and in later ones.
func TestWriteIdentifiers(t *testing.T) {
	for _, id := range []int{0, -1, -127, -128, -255, 128, 129, 255, 256, 257, 384, 1<<32 + 5, math.MinInt, math.MinInt + 1, math.MaxInt} {
		checkNotWritten(t, section{id, nil})
		checkNotWritten(t, section{id, []byte("data")})
		checkNotWritten(t, section{1, nil}, section{id, nil})
		checkNotWritten(t, section{id, nil}, section{127, nil})
		checkNotWritten(t, section{1, nil}, section{2, []byte("data")}, section{id, nil}, section{127, nil})
	}
	for id := 1; id <= 127; id++ {
		checkWrite(t, []section{{id, nil}}, join(head(), framed(byte(id), nil)))
	}
}

// P4.1: identifiers that are permitted but equal or descending.
func TestWriteOrder(t *testing.T) {
	for a := 1; a <= 127; a++ {
		for b := 1; b <= 127; b++ {
			if a < b {
				checkWrite(t, []section{{a, nil}, {b, nil}}, join(head(), framed(byte(a), nil), framed(byte(b), nil)))
			} else {
				checkNotWritten(t, section{a, nil}, section{b, nil})
			}
		}
	}
	checkNotWritten(t, section{1, nil}, section{5, nil}, section{5, nil})
	checkNotWritten(t, section{1, nil}, section{5, nil}, section{4, nil})
	checkNotWritten(t, section{1, nil}, section{5, nil}, section{1, nil}, section{6, nil})
	checkNotWritten(t, section{3, nil}, section{2, nil}, section{9, nil})
}

// P4.1 with rule 4 of the document: the arguments are not modified, and a result shares memory with nothing.
func TestWriteIsSeparate(t *testing.T) {
	memory := []byte("abcdefghijkl")
	sections := []section{{2, memory[2:5]}, {3, nil}, {4, memory[:0]}}
	want, _ := reference(sections)
	first, _ := container.Write(sections...)
	second, _ := container.Write(sections...)
	for i := range first {
		first[i] ^= 0x55
	}
	_ = append(first, "more"...)
	if !bytes.Equal(second, want) || string(memory) != "abcdefghijkl" {
		t.Errorf("%x, %q: shared with a result", second, memory)
	}
	if !sameSections(sections, []section{{2, []byte("cde")}, {3, nil}, {4, nil}}) {
		t.Errorf("the sections became %v", sections)
	}
	memory[3] = '-'
	if !bytes.Equal(second, want) {
		t.Errorf("%x: shared with the argument", second)
	}
}

// P4.2 and P4.3: containers with sections of all identifiers and of many lengths.
func TestReadAndSpans(t *testing.T) {
	for _, sections := range lists() {
		b, spans := reference(sections)
		checkRead(t, b, sections, spans)
	}
	checkRead(t, head(), nil, nil)
	checkRead(t, []byte("MIRT\x01\x03\x00\x00\x00\x00\x00"), []section{{3, nil}}, [][2]int{{7, 7}})
	checkRead(t, []byte("MIRT\x01\x7f\x09123456789\x26\x39\xf4\xcb"), []section{{127, []byte("123456789")}}, [][2]int{{7, 16}})
}

// P4.2: data that does not begin with MIRT, whatever follows.
func TestMagic(t *testing.T) {
	checkError(t, nil, api.ErrMagic)
	for n := range 4 {
		checkError(t, head()[:n], api.ErrMagic)
	}
	good := join(head(), framed(3, []byte("abc")))
	for i := range 4 {
		for c := range 256 {
			b := bytes.Clone(good)
			b[i] = byte(c)
			if b[i] != good[i] {
				checkError(t, b, api.ErrMagic)
				checkError(t, b[:4], api.ErrMagic)
				b[4], b[5] = 2, 0
				checkError(t, b, api.ErrMagic)
			}
		}
	}
	checkError(t, []byte("mirt\x01"), api.ErrMagic)
	checkError(t, []byte("TRIM\x01"), api.ErrMagic)
	checkError(t, []byte(" MIRT\x01"), api.ErrMagic)
	checkError(t, join([]byte("MIR"), good), api.ErrMagic)
	// The rest of the name stands behind the length of the slice.
	checkError(t, good[:3], api.ErrMagic)
}

// P4.2: data that ends behind MIRT, and each other version, whatever follows.
func TestVersion(t *testing.T) {
	checkError(t, []byte("MIRT"), api.ErrEOF)
	checkError(t, head()[:4], api.ErrEOF)
	for c := range 256 {
		if c == 1 {
			continue
		}
		b := []byte{'M', 'I', 'R', 'T', byte(c)}
		checkError(t, b, api.ErrVersion)
		checkError(t, join(b, []byte{0}), api.ErrVersion)
		checkError(t, join(b, framed(3, nil)), api.ErrVersion)
	}
}

// P4.2: identifiers out of range, which precede everything that is wrong behind them.
func TestSectionIdentifiers(t *testing.T) {
	for c := range 256 {
		rests := [][]byte{framed(byte(c), []byte("abc")), {byte(c)}, {byte(c), 0x80}, {byte(c), 0x80, 0}, {byte(c), 9}, {byte(c), 0, 1, 0, 0, 0}}
		for i, rest := range rests {
			switch {
			case c < 1 || c > 127:
				checkError(t, join(head(), rest), api.ErrSection)
			case i == 0:
				checkRead(t, join(head(), rest), []section{{c, []byte("abc")}}, [][2]int{{7, 10}})
			}
		}
	}
}

// P4.2: identifiers that are not greater than the one before.
func TestSectionOrder(t *testing.T) {
	for a := 1; a <= 127; a++ {
		for b := range 256 {
			c := join(head(), framed(byte(a), []byte("x")), framed(byte(b), nil))
			if b > a && b <= 127 {
				checkRead(t, c, []section{{a, []byte("x")}, {b, nil}}, [][2]int{{7, 8}, {14, 14}})
			} else {
				checkError(t, c, api.ErrSection)
			}
		}
	}
	// Each section counts for the next one, not only the first.
	checkError(t, join(head(), framed(1, nil), framed(5, nil), framed(3, nil)), api.ErrSection)
	checkError(t, join(head(), framed(1, nil), framed(5, nil), framed(5, nil)), api.ErrSection)
	checkError(t, join(head(), framed(5, nil), []byte{5}), api.ErrSection)
	checkError(t, join(head(), framed(5, nil), []byte{4, 0x80, 0}), api.ErrSection)
}

// P4.2: lengths that are no encodings.
func TestLengthEncodings(t *testing.T) {
	for _, before := range [][]byte{nil, framed(2, []byte("ab"))} {
		for _, c := range []struct {
			code []byte
			e    api.Errno
		}{
			{nil, api.ErrEOF},
			{[]byte{0x80}, api.ErrEOF},
			{repeat(0xff, 9), api.ErrEOF},
			{[]byte{0x80, 0}, api.ErrMinimal},
			{[]byte{0x83, 0, 'a', 'b', 'c', 0, 0, 0, 0}, api.ErrMinimal},
			{join(repeat(0x80, 9), []byte{0}), api.ErrMinimal},
			{join(repeat(0x80, 9), []byte{2}), api.ErrOverflow},
			{repeat(0xff, 10), api.ErrOverflow},
			{repeat(0xff, 20), api.ErrOverflow},
		} {
			checkError(t, join(head(), before, []byte{3}, c.code), c.e)
		}
	}
	// A longer encoding of 0 in front of the right checksum.
	checkError(t, join(head(), []byte{3, 0x80, 0, 0, 0, 0, 0}), api.ErrMinimal)
}

// P4.2: sections that end too early, which precedes a wrong checksum.
func TestSectionEnd(t *testing.T) {
	for _, n := range []int{0, 1, 5, 127, 128, 300} {
		f := framed(8, repeat('q', n))
		for end := 1 + len(encoding(uint64(n))); end < len(f); end++ {
			checkError(t, join(head(), f[:end]), api.ErrEOF)
			checkError(t, join(head(), framed(1, []byte("ab")), f[:end]), api.ErrEOF)
			bad := bytes.Clone(f[:end])
			bad[end-1] ^= 0x10
			if end > 1+len(encoding(uint64(n))) {
				checkError(t, join(head(), bad), api.ErrEOF)
			}
		}
	}
	// The rest of the section stands behind the length of the slice.
	b := join(head(), framed(8, []byte("data")))
	checkError(t, b[:len(b)-1], api.ErrEOF)
}

// P4.2: lengths that no data can have, up to those whose sum with the size of the checksum is too great for a number.
func TestGreatLengths(t *testing.T) {
	lengths := []uint64{math.MaxUint64, 1 << 63, math.MaxInt64, 1 << 32, 1 << 31, math.MaxInt32, 100}
	for i := range uint64(40) {
		lengths = append(lengths, math.MaxUint64-i, math.MaxInt64-i, 1<<63+i, 1<<32+i)
	}
	for _, n := range lengths {
		for _, behind := range [][]byte{nil, {0}, {0, 0, 0, 0}, repeat(0, 30)} {
			checkError(t, join(head(), []byte{1}, encoding(n), behind), api.ErrEOF)
			checkError(t, join(head(), framed(1, nil), []byte{2}, encoding(n), behind), api.ErrEOF)
		}
	}
}

// P4.2: each other byte in data and checksum, whatever follows.
func TestChecksum(t *testing.T) {
	before := join(head(), framed(1, []byte("first")))
	for _, data := range []string{"", "\x00", "abc", "MIRT\x01"} {
		f := framed(8, []byte(data))
		for i := 2; i < len(f); i++ {
			for c := range 256 {
				bad := bytes.Clone(f)
				bad[i] = byte(c)
				if bad[i] == f[i] {
					continue
				}
				checkError(t, join(head(), bad), api.ErrCRC)
				checkError(t, join(before, bad, framed(9, nil)), api.ErrCRC)
				checkError(t, join(before, bad, []byte{0}), api.ErrCRC)
			}
		}
	}
	// The checksum in another order, that of the framed bytes, and the one that belongs to more data.
	checkError(t, join(head(), []byte{8, 1, 'a', 0xe8, 0xb7, 0xbe, 0x43}), api.ErrCRC)
	checkError(t, join(head(), []byte{8, 1, 'a'}, checksum([]byte{8, 1, 'a'})), api.ErrCRC)
	checkError(t, join(head(), []byte{8, 1, 'a'}, checksum([]byte("ab"))), api.ErrCRC)
}

// P4.2: the first section with an error decides, and a section without one behind it changes nothing.
func TestFirstError(t *testing.T) {
	bad := []struct {
		b []byte
		e api.Errno
	}{
		{[]byte{0, 0, 0, 0, 0, 0}, api.ErrSection},
		{[]byte{20, 0, 1, 0, 0, 0}, api.ErrCRC},
		{[]byte{20, 0x80, 0}, api.ErrMinimal},
		{join([]byte{20}, repeat(0xff, 10)), api.ErrOverflow},
	}
	for _, first := range bad {
		checkError(t, join(head(), framed(2, nil), first.b, framed(30, nil)), first.e)
		for _, second := range bad {
			checkError(t, join(head(), first.b, second.b), first.e)
		}
		checkError(t, join(head(), first.b, []byte{21}), first.e)
	}
	checkError(t, join(head(), framed(2, nil), []byte{20}), api.ErrEOF)
	checkError(t, join(head(), framed(2, nil), []byte{2}), api.ErrSection)
}

// P4.2: what Read returns is newly allocated: no change of it is seen anywhere else.
func TestReadIsNewlyAllocated(t *testing.T) {
	sections := []section{{1, []byte("abc")}, {2, nil}, {3, []byte("defgh")}}
	b, _ := reference(sections)
	before := bytes.Clone(b)
	first, _ := container.Read(b)
	second, _ := container.Read(b)
	if len(first) != 3 || len(second) != 3 {
		t.Fatalf("%d and %d sections", len(first), len(second))
	}
	for i := range first {
		for j := range first[i].Data {
			first[i].Data[j] = '-'
		}
		_ = append(first[i].Data, "-----------"...)
		first[i].ID = 99
	}
	if string(first[0].Data) != "---" || string(first[2].Data) != "-----" {
		t.Errorf("%v: the sections share memory", first)
	}
	if !bytes.Equal(b, before) || !sameSections(second, sections) {
		t.Errorf("%x, %v: shared with a result", b, second)
	}
	for i := range b {
		b[i] = 0xff
	}
	if !sameSections(second, sections) {
		t.Errorf("%v: shared with the argument", second)
	}
}

// P4.3: the spans are those of the data within the container, and calls do not share their results.
func TestSpansOfData(t *testing.T) {
	for _, sections := range lists() {
		b, _ := reference(sections)
		before := bytes.Clone(b)
		spans, e := container.Spans(b)
		if e != api.OK || len(spans) != len(sections) {
			t.Errorf("%d sections: spans %v, %v", len(sections), spans, e)
			continue
		}
		for i, s := range spans {
			if !bytes.Equal(b[s[0]:s[1]], sections[i].Data) {
				t.Errorf("span %v is not that of section %d", s, i)
			}
			spans[i] = [2]int{-1, -1}
		}
		if again, _ := container.Spans(b); slices.Contains(again, [2]int{-1, -1}) || !bytes.Equal(b, before) {
			t.Errorf("a change of a result is seen: %v", again)
		}
	}
}

// P4.4: Read inverts Write, and Write inverts Read.
func TestReadInvertsWrite(t *testing.T) {
	for _, sections := range lists() {
		b, e := container.Write(sections...)
		if e != api.OK {
			t.Errorf("%d sections: %v", len(sections), e)
			continue
		}
		got, e := container.Read(b)
		if e != api.OK || !sameSections(got, sections) {
			t.Errorf("%d sections were read as %d, %v", len(sections), len(got), e)
		}
		checkWrite(t, got, b)
	}
}

// P4.2 and P4.4: each prefix of a container is read as the sections that it has, or rejected.
func TestPrefixes(t *testing.T) {
	sections := []section{{1, []byte("abc")}, {2, nil}, {60, repeat('x', 130)}, {127, []byte{0}}}
	b, spans := reference(sections)
	whole := 0
	for n := range len(b) {
		if _, e := model(b[:n]); e == api.OK {
			whole++
		}
		checkModel(t, b[:n])
	}
	if whole != len(spans) {
		t.Errorf("%d prefixes are containers", whole)
	}
}

// P4.4: all patterns of up to ten consecutive bits, in each place of the data of a section.
func TestShortBurstsAreFound(t *testing.T) {
	for _, data := range []string{"\x00", "ab", "123456789"} {
		b, spans := reference([]section{{1, []byte("before")}, {2, []byte(data)}, {3, []byte("behind")}})
		for from := 8 * spans[1][0]; from < 8*spans[1][1]; from++ {
			for pattern := uint32(1); pattern < 1<<min(10, 8*spans[1][1]-from); pattern++ {
				if _, e := container.Read(invert(b, from, pattern)); e != api.ErrCRC {
					t.Fatalf("%q: pattern %x from bit %d: %v", data, pattern, from, e)
				}
			}
		}
	}
}

// P4.4: patterns of 32 bits with arbitrary bits, in each place of the data of each section.
func TestLongBurstsAreFound(t *testing.T) {
	r := rand.New(rand.NewSource(2))
	b, spans := reference([]section{{1, arbitrary(r, 4)}, {2, arbitrary(r, 20)}, {3, arbitrary(r, 40)}})
	for _, s := range spans {
		for from := 8 * s[0]; from+32 <= 8*s[1]; from++ {
			patterns := []uint32{1, 1 << 31, 1<<31 | 1, math.MaxUint32, 0xedb88320, 0x04c11db7}
			for range 50 {
				patterns = append(patterns, r.Uint32()|1, r.Uint32()|1<<31)
			}
			for _, pattern := range patterns {
				bad := invert(b, from, pattern)
				if _, e := container.Read(bad); e != api.ErrCRC {
					t.Fatalf("pattern %08x from bit %d: %v", pattern, from, e)
				}
				if spans, e := container.Spans(bad); e != api.ErrCRC || len(spans) != 0 {
					t.Fatalf("pattern %08x from bit %d: spans %v, %v", pattern, from, spans, e)
				}
			}
		}
	}
}

// P4.2 to P4.4: containers with arbitrary changes, compared with the model.
func TestAgainstModel(t *testing.T) {
	r := rand.New(rand.NewSource(3))
	edges := []byte{0, 1, 2, 4, 0x7f, 0x80, 0x81, 0xff}
	for range 20000 {
		b := head()
		for range r.Intn(5) {
			b = join(b, framed(byte(r.Intn(130)), arbitrary(r, r.Intn(6))))
		}
		for range r.Intn(3) {
			b[r.Intn(len(b))] = edges[r.Intn(len(edges))]
		}
		if r.Intn(4) == 0 {
			b = b[:r.Intn(len(b))]
		}
		before := bytes.Clone(b)
		checkModel(t, b)
		if !bytes.Equal(b, before) {
			t.Fatalf("%x became %x", before, b)
		}
	}
}

// Rule 6 of the document: calls at the same time do not disturb each other.
func TestConcurrentCalls(t *testing.T) {
	var group sync.WaitGroup
	for i := range 8 {
		group.Go(func() {
			sections := []section{{1 + i, repeat(byte(i), 50)}, {100, []byte("end")}}
			want, spans := reference(sections)
			for range 200 {
				checkWrite(t, sections, want)
				checkRead(t, want, sections, spans)
			}
		})
	}
	group.Wait()
}

// FuzzRead compares Read and Spans with the model for arbitrary bytes, and for the same bytes as the framed sections behind a good head and as the data of a section.
func FuzzRead(f *testing.F) {
	f.Add([]byte{})
	f.Add(head())
	f.Add(framed(3, nil))
	f.Add(join(framed(1, []byte("abc")), framed(2, nil), framed(127, repeat(9, 130))))
	f.Add(join(head(), framed(1, []byte("abc")), []byte{2, 0xff, 0xff}))
	f.Fuzz(func(t *testing.T, b []byte) {
		checkModel(t, b)
		checkModel(t, join(head(), b))
		checkModel(t, join(head(), framed(1, b), framed(2, nil)))
	})
}
