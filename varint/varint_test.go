package varint_test

import (
	"bytes"
	"math"
	"math/big"
	"math/rand"
	"slices"
	"testing"

	"mirtower/api"
	"mirtower/varint"
)

// numbers returns the edges of all lengths and of all bits, and many arbitrary numbers of all magnitudes.
func numbers() []uint64 {
	l := []uint64{0, 1, 2, 127, 128, 300, 16383, 16384, math.MaxInt64, 1 << 63, math.MaxUint64 - 1, math.MaxUint64}
	for s := range 64 {
		p := uint64(1) << s
		l = append(l, p-1, p, p+1, math.MaxUint64-p, math.MaxUint64>>s)
	}
	r := rand.New(rand.NewSource(1))
	for i := range 5000 {
		l = append(l, r.Uint64()>>(i%64))
	}
	return l
}

// reference encodes a number by division, as the chapter defines the groups.
func reference(n uint64) []byte {
	var out []byte
	for {
		group := byte(n % 128)
		n /= 128
		if n == 0 {
			return append(out, group)
		}
		out = append(out, group+128)
	}
}

// referenceGet reads an encoding as the chapter words it, without bounds on the number.
func referenceGet(b []byte, at int) (uint64, int, api.Errno) {
	if at < 0 || at > len(b) {
		return 0, 0, api.ErrArg
	}
	sum, place := new(big.Int), big.NewInt(1)
	for i := 0; ; i++ {
		if at+i == len(b) {
			return 0, 0, api.ErrEOF
		}
		c := b[at+i]
		if i == 9 && c > 1 {
			return 0, 0, api.ErrOverflow
		}
		sum.Add(sum, new(big.Int).Mul(place, big.NewInt(int64(c%128))))
		place.Mul(place, big.NewInt(128))
		if c < 128 {
			if c == 0 && i > 0 {
				return 0, 0, api.ErrMinimal
			}
			return sum.Uint64(), at + i + 1, api.OK
		}
	}
}

// checkGet compares a call of Get with what is expected.
func checkGet(t *testing.T, b []byte, at int, n uint64, after int, e api.Errno) {
	t.Helper()
	gotN, gotAfter, gotE := varint.Get(b, at)
	if gotN != n || gotAfter != after || gotE != e {
		t.Errorf("Get(%x, %d) = %d, %d, %v; want %d, %d, %v", b, at, gotN, gotAfter, gotE, n, after, e)
	}
}

// checkError checks that a call of Get returns an error and otherwise zeros.
func checkError(t *testing.T, b []byte, at int, e api.Errno) {
	t.Helper()
	checkGet(t, b, at, 0, 0, e)
}

// join returns the concatenation of strings of bytes in new memory.
func join(parts ...[]byte) []byte {
	return slices.Concat(parts...)
}

// repeat returns a number of equal bytes.
func repeat(c byte, n int) []byte {
	return bytes.Repeat([]byte{c}, n)
}

// P1.1: the encoding of numbers that are written out.
func TestPutExamples(t *testing.T) {
	for _, c := range []struct {
		n    uint64
		want []byte
	}{
		{0, []byte{0}},
		{1, []byte{1}},
		{127, []byte{0x7f}},
		{128, []byte{0x80, 1}},
		{300, []byte{0xac, 2}},
		{16383, []byte{0xff, 0x7f}},
		{16384, []byte{0x80, 0x80, 1}},
		{0x0102030405060708, []byte{0x88, 0x8e, 0x98, 0xa8, 0xc0, 0xe0, 0x80, 0x81, 1}},
		{math.MaxInt64, join(repeat(0xff, 8), []byte{0x7f})},
		{1 << 63, join(repeat(0x80, 9), []byte{1})},
		{math.MaxUint64, join(repeat(0xff, 9), []byte{1})},
	} {
		if got := varint.Put(c.n); !bytes.Equal(got, c.want) {
			t.Errorf("Put(%d) = %x, want %x", c.n, got, c.want)
		}
		if got := varint.Size(c.n); got != len(c.want) {
			t.Errorf("Size(%d) = %d, want %d", c.n, got, len(c.want))
		}
	}
}

// P1.1: the greatest number of each length, and the least one of the next length.
func TestSizeEdges(t *testing.T) {
	for size := 1; size <= 10; size++ {
		least := uint64(0)
		if size > 1 {
			least = 1 << (7 * (size - 1))
		}
		greatest := uint64(math.MaxUint64)
		if size < 10 {
			greatest = 1<<(7*size) - 1
		}
		for _, n := range []uint64{least, greatest} {
			if varint.Size(n) != size || len(varint.Put(n)) != size {
				t.Errorf("%d: Size %d, length %d, want %d", n, varint.Size(n), len(varint.Put(n)), size)
			}
		}
	}
}

// P1.1: the groups of numbers of all magnitudes, the least significant one first.
func TestPutGroups(t *testing.T) {
	for _, n := range numbers() {
		want := reference(n)
		if got := varint.Put(n); !bytes.Equal(got, want) {
			t.Errorf("Put(%d) = %x, want %x", n, got, want)
		}
		if got := varint.Size(n); got != len(want) {
			t.Errorf("Size(%d) = %d, want %d", n, got, len(want))
		}
	}
}

// P1.1 with rule 4 of the document: a result shares no memory with another one.
func TestPutResultsAreSeparate(t *testing.T) {
	for _, n := range []uint64{0, 300, math.MaxUint64} {
		first := varint.Put(n)
		for i := range first {
			first[i] = 0x55
		}
		_ = append(first, 0x55)
		if got := varint.Put(n); !bytes.Equal(got, reference(n)) {
			t.Errorf("Put(%d) = %x after another result was changed", n, got)
		}
	}
}

// P1.2: numbers at an offset, with other bytes around their encodings.
func TestGetNumbers(t *testing.T) {
	for _, n := range numbers() {
		code := reference(n)
		for _, before := range [][]byte{nil, {0}, {0xff}, repeat(0x80, 12)} {
			at := len(before)
			for _, behind := range [][]byte{nil, {0}, {0xff}, repeat(0x80, 12)} {
				checkGet(t, join(before, code, behind), at, n, at+len(code), api.OK)
			}
		}
	}
}

// P1.2: each encoding in a sequence starts where the one before ended.
func TestGetSequence(t *testing.T) {
	var b []byte
	for _, n := range numbers() {
		b = append(b, reference(n)...)
	}
	at := 0
	for _, want := range numbers() {
		n, after, e := varint.Get(b, at)
		if n != want || after != at+len(reference(want)) || e != api.OK {
			t.Fatalf("at %d: %d, %d, %v, want %d", at, n, after, e, want)
		}
		at = after
	}
	checkError(t, b, at, api.ErrEOF)
}

// P1.2: offsets below 0 and behind the end, which precede all other errors, and at the end.
func TestGetOffsets(t *testing.T) {
	for _, b := range [][]byte{nil, {}, {1}, {0x80}, {0x80, 0}, repeat(0xff, 11), repeat(1, 300)} {
		for _, at := range []int{-1, -2, -len(b) - 1, math.MinInt, len(b) + 1, len(b) + 2, math.MaxInt} {
			checkError(t, b, at, api.ErrArg)
		}
		checkError(t, b, len(b), api.ErrEOF)
	}
	checkGet(t, []byte{5, 6}, 1, 6, 2, api.OK)
}

// P1.2: data that ends before the last byte of an encoding, after 0 to 9 bytes.
func TestGetEOF(t *testing.T) {
	for n := range 10 {
		for _, c := range []byte{0x80, 0x81, 0xff} {
			checkError(t, repeat(c, n), 0, api.ErrEOF)
			checkError(t, join([]byte{7}, repeat(c, n)), 1, api.ErrEOF)
		}
	}
}

// P1.2 with rule 4 of the document: bytes behind the length of the slice are not read.
func TestGetStopsAtLength(t *testing.T) {
	b := []byte{0x81, 1, 1}
	checkError(t, b[:1], 0, api.ErrEOF)
	checkError(t, b[:1], 1, api.ErrEOF)
	checkError(t, b[:1], 2, api.ErrArg)
}

// P1.2: each tenth byte, with and without another byte behind it.
func TestGetOverflow(t *testing.T) {
	for _, c := range []byte{0x80, 0x81, 0xff} {
		for last := 2; last <= 255; last++ {
			b := join(repeat(c, 9), []byte{byte(last)})
			checkError(t, b, 0, api.ErrOverflow)
			checkError(t, join(b, []byte{0}), 0, api.ErrOverflow)
			checkError(t, join([]byte{3}, b, []byte{1}), 1, api.ErrOverflow)
		}
		checkError(t, join(repeat(c, 9), []byte{0}), 0, api.ErrMinimal)
	}
	checkGet(t, join(repeat(0x80, 9), []byte{1}), 0, 1<<63, 10, api.OK)
	checkGet(t, join(repeat(0xff, 9), []byte{1}), 0, math.MaxUint64, 10, api.OK)
}

// P1.2: encodings of all lengths that end with a needless group.
func TestGetMinimal(t *testing.T) {
	for n := 1; n <= 9; n++ {
		for _, c := range []byte{0x80, 0x81, 0xff} {
			b := join(repeat(c, n), []byte{0})
			checkError(t, b, 0, api.ErrMinimal)
			checkError(t, join([]byte{0}, b, []byte{1}), 1, api.ErrMinimal)
		}
	}
	checkGet(t, []byte{0, 0}, 0, 0, 1, api.OK)
	checkGet(t, []byte{0x80, 0x80, 0}, 2, 0, 3, api.OK)
}

// P1.2: all strings of at most two bytes, and strings whose bytes are mostly at the edges.
func TestGetAgainstReference(t *testing.T) {
	compare := func(b []byte, at int) {
		n, after, e := referenceGet(b, at)
		checkGet(t, b, at, n, after, e)
	}
	for i := range 1 << 8 {
		compare([]byte{byte(i)}, 0)
		for j := range 1 << 8 {
			compare([]byte{byte(i), byte(j)}, 0)
		}
	}
	r := rand.New(rand.NewSource(2))
	edges := []byte{0, 1, 2, 0x7f, 0x80, 0x80, 0x81, 0x82, 0xfe, 0xff, 0xff}
	for range 20000 {
		b := make([]byte, r.Intn(13))
		for i := range b {
			b[i] = edges[r.Intn(len(edges))]
			if i < len(b)-2 && r.Intn(4) > 0 {
				b[i] |= 0x80
			}
		}
		compare(b, r.Intn(3)-1)
	}
}

// P1.2 with rule 4 of the document: the argument is not modified.
func TestGetKeepsArgument(t *testing.T) {
	for _, b := range [][]byte{{0xac, 2, 9}, {0x80, 0}, repeat(0xff, 10), {0x80}} {
		before := bytes.Clone(b)
		varint.Get(b, 0)
		if !bytes.Equal(b, before) {
			t.Errorf("%x became %x", before, b)
		}
	}
}

// P1.3: the beginning of the order 0, -1, 1, -2, 2 and so on, and its end.
func TestZigzagOrder(t *testing.T) {
	for _, c := range []struct {
		n int64
		u uint64
	}{
		{-3, 5},
		{63, 126},
		{-64, 127},
		{math.MaxInt32, math.MaxUint32 - 1},
		{math.MinInt32, math.MaxUint32},
		{math.MaxInt64, math.MaxUint64 - 1},
		{math.MinInt64 + 1, math.MaxUint64 - 2},
		{math.MinInt64, math.MaxUint64},
	} {
		checkZigzag(t, c.n, c.u)
	}
	checkZigzag(t, 0, 0)
	for n := int64(1); n <= 1000; n++ {
		checkZigzag(t, -n, uint64(2*n-1))
		checkZigzag(t, n, uint64(2*n))
	}
}

// checkZigzag checks both conversions between two numbers.
func checkZigzag(t *testing.T, n int64, u uint64) {
	t.Helper()
	if got := varint.Zigzag(n); got != u {
		t.Errorf("Zigzag(%d) = %d, want %d", n, got, u)
	}
	if got := varint.Unzigzag(u); got != n {
		t.Errorf("Unzigzag(%d) = %d, want %d", u, got, n)
	}
}

// P1.3: both conversions of numbers of all magnitudes, which are inverse to each other.
func TestZigzagInverse(t *testing.T) {
	for _, u := range numbers() {
		// An even number 2n stands for n, and an odd one 2n+1 for -n-1.
		want := new(big.Int).SetUint64(u / 2)
		if u%2 == 1 {
			want.Not(want)
		}
		checkZigzag(t, want.Int64(), u)
		n := int64(u)
		if back := varint.Unzigzag(varint.Zigzag(n)); back != n {
			t.Errorf("%d became %d", n, back)
		}
	}
}

// P1.4: Get inverts Put, whatever follows, and rejects each proper prefix.
func TestGetInvertsPut(t *testing.T) {
	for _, n := range numbers() {
		code := varint.Put(n)
		for follow := range 256 {
			checkGet(t, join(code, []byte{byte(follow)}), 0, n, len(code), api.OK)
		}
		checkGet(t, join(code, code), len(code), n, 2*len(code), api.OK)
		for end := range code {
			checkError(t, code[:end], 0, api.ErrEOF)
			checkError(t, join([]byte{0}, code[:end]), 1, api.ErrEOF)
		}
	}
}

// P1.4 with P4 of the document: what is accepted is exactly what Put returns.
func TestAcceptedIsPut(t *testing.T) {
	accepted := 0
	check := func(b ...byte) {
		n, after, e := varint.Get(b, 0)
		if e != api.OK || after != len(b) {
			return
		}
		accepted++
		if !bytes.Equal(varint.Put(n), b) {
			t.Errorf("%x was accepted as %d", b, n)
		}
	}
	check()
	for i := range 1 << 8 {
		check(byte(i))
		for j := range 1 << 8 {
			check(byte(i), byte(j))
			for _, k := range []byte{0, 1, 0x7f, 0x80, 0xff} {
				check(byte(i), byte(j), k)
			}
		}
	}
	// One byte: 128. Two bytes: 128 times 127. Three bytes: 128 times 128 times the last bytes 1 and 7f.
	if want := 128 + 128*127 + 128*128*2; accepted != want {
		t.Errorf("%d strings were accepted, want %d", accepted, want)
	}
}

// FuzzGet compares Get with the reference and with Put, for arbitrary arguments.
func FuzzGet(f *testing.F) {
	f.Add([]byte{0xac, 2}, 0)
	f.Add([]byte{0x80, 0}, 0)
	f.Add(repeat(0xff, 10), 0)
	f.Add([]byte{1}, -1)
	f.Fuzz(func(t *testing.T, b []byte, at int) {
		n, after, e := referenceGet(b, at)
		checkGet(t, b, at, n, after, e)
		if e == api.OK && !bytes.Equal(varint.Put(n), b[at:after]) {
			t.Errorf("%x at %d is not the encoding of %d", b, at, n)
		}
	})
}
