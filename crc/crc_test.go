package crc_test

import (
	"bytes"
	"hash/crc32"
	"math"
	"math/rand"
	"slices"
	"sync"
	"testing"

	"mirtower/crc"
)

// reference computes the checksum bit by bit, as the chapter words it.
func reference(b []byte) uint32 {
	state := uint32(0xffffffff)
	for _, c := range b {
		state ^= uint32(c)
		for range 8 {
			out := state % 2
			state /= 2
			if out == 1 {
				state ^= 0xedb88320
			}
		}
	}
	return ^state
}

// withSum returns four bytes whose checksum is the given one: it undoes the 32 shifts that lead to it.
func withSum(sum uint32) []byte {
	state := ^sum
	for range 32 {
		// The divisor has its highest bit set, and a shifted state has not.
		if state>>31 == 1 {
			state = (state^0xedb88320)<<1 | 1
		} else {
			state <<= 1
		}
	}
	// The initial state was combined with the four bytes, each of them in its turn in the lowest bits.
	return littleEndian(^state)
}

// littleEndian returns the four bytes of a number, the least significant one first.
func littleEndian(n uint32) []byte {
	return []byte{byte(n), byte(n / 0x100), byte(n / 0x10000), byte(n / 0x1000000)}
}

// texts returns strings of bytes of many lengths: none, equal bytes, each single byte, and arbitrary ones.
func texts() [][]byte {
	l := [][]byte{nil, {}, []byte("123456789"), []byte("mirtower")}
	for c := range 256 {
		l = append(l, []byte{byte(c)})
	}
	for _, n := range []int{2, 3, 4, 5, 7, 8, 9, 31, 32, 33, 255, 256, 257, 1000} {
		for _, c := range []byte{0, 1, 0x80, 0xff} {
			l = append(l, bytes.Repeat([]byte{c}, n))
		}
	}
	r := rand.New(rand.NewSource(1))
	for n := range 300 {
		l = append(l, arbitrary(r, n))
	}
	return append(l, arbitrary(r, 1<<16), arbitrary(r, 1<<20+1))
}

// arbitrary returns a number of arbitrary bytes.
func arbitrary(r *rand.Rand, n int) []byte {
	b := make([]byte, n)
	r.Read(b)
	return b
}

// sums returns the edges of the checksums, each single bit, and arbitrary ones.
func sums() []uint32 {
	l := []uint32{0, 1, 0xcbf43926, 0xedb88320, math.MaxInt32, 1 << 31, math.MaxUint32 - 1, math.MaxUint32}
	for s := range 32 {
		l = append(l, 1<<s, ^(uint32(1) << s))
	}
	r := rand.New(rand.NewSource(2))
	for range 1000 {
		l = append(l, r.Uint32())
	}
	return l
}

// invert returns a copy of a string of bytes in which the bits of a pattern are inverted from a bit on.
func invert(b []byte, from int, pattern uint32) []byte {
	out := bytes.Clone(b)
	for i := range 32 {
		if pattern>>i&1 == 1 {
			out[(from+i)/8] ^= 1 << ((from + i) % 8)
		}
	}
	return out
}

// checkSum compares the checksum of a string of bytes with what is expected.
func checkSum(t *testing.T, b []byte, want uint32) {
	t.Helper()
	if got := crc.Sum(b); got != want {
		t.Errorf("Sum(%.40x) = %08x, want %08x", b, got, want)
	}
}

// checkUpdate compares a call of Update with what is expected.
func checkUpdate(t *testing.T, sum uint32, b []byte, want uint32) {
	t.Helper()
	if got := crc.Update(sum, b); got != want {
		t.Errorf("Update(%08x, %.40x) = %08x, want %08x", sum, b, got, want)
	}
}

// checkCheck compares a call of Check with what is expected.
func checkCheck(t *testing.T, b []byte, want bool) {
	t.Helper()
	if got := crc.Check(b); got != want {
		t.Errorf("Check(%.40x) = %v, want %v", b, got, want)
	}
}

// P2.1: checksums that are written out, those of the chapter among them.
func TestSumExamples(t *testing.T) {
	for _, c := range []struct {
		text string
		want uint32
	}{
		{"", 0},
		{"123456789", 0xcbf43926},
		{"\x00", 0xd202ef8d},
		{"\xff", 0xff000000},
		{"a", 0xe8b7be43},
		{"abc", 0x352441c2},
		{"\x00\x00\x00\x00", 0x2144df1c},
		{"\xff\xff\xff\xff", 0xffffffff},
		{"The quick brown fox jumps over the lazy dog", 0x414fa339},
	} {
		checkSum(t, []byte(c.text), c.want)
	}
	checkSum(t, nil, 0)
}

// P2.1: strings of all kinds, compared with the words of the chapter and with another implementation.
func TestSumAgainstReference(t *testing.T) {
	for _, b := range texts() {
		want := reference(b)
		if other := crc32.ChecksumIEEE(b); other != want {
			t.Fatalf("the references differ: %08x, %08x", other, want)
		}
		checkSum(t, b, want)
	}
}

// P2.1: all strings of two bytes, in which each state that a byte leads to is used and shifted.
func TestSumTwoBytes(t *testing.T) {
	for i := range 256 {
		for j := range 256 {
			b := []byte{byte(i), byte(j)}
			checkSum(t, b, reference(b))
		}
	}
}

// P2.1: a string that is split at each place.
func TestUpdateSplit(t *testing.T) {
	for _, b := range texts() {
		if len(b) > 300 {
			continue
		}
		want := reference(b)
		for at := 0; at <= len(b); at++ {
			checkUpdate(t, reference(b[:at]), b[at:], want)
		}
	}
}

// P2.1: Update goes on from any checksum, since each one belongs to a string.
func TestUpdateFromAnySum(t *testing.T) {
	more := [][]byte{nil, {0}, {0xff}, []byte("123456789"), bytes.Repeat([]byte{0x5a}, 40)}
	for _, sum := range sums() {
		a := withSum(sum)
		checkSum(t, a, sum)
		for _, b := range more {
			checkUpdate(t, sum, b, reference(slices.Concat(a, b)))
		}
	}
}

// P2.1: strings that are continued by one byte at a time.
func TestUpdateByteByByte(t *testing.T) {
	for _, b := range texts() {
		sum := uint32(0)
		for i, c := range b[:min(len(b), 500)] {
			sum = crc.Update(sum, []byte{c})
			if i%16 == 0 && sum != reference(b[:i+1]) {
				t.Fatalf("after %.40x: %08x", b[:i+1], sum)
			}
		}
		checkUpdate(t, sum, b[min(len(b), 500):], reference(b))
	}
}

// P2.1: nothing is added to a checksum by the empty string.
func TestUpdateEmpty(t *testing.T) {
	for _, sum := range sums() {
		checkUpdate(t, sum, nil, sum)
		checkUpdate(t, sum, []byte{}, sum)
		checkUpdate(t, sum, []byte{1, 2}[:0], sum)
	}
}

// P2.1 with rule 4 of the document: bytes behind the length of the slice are not read.
func TestSumStopsAtLength(t *testing.T) {
	b := []byte("123456789 and more")
	checkSum(t, b[:9], 0xcbf43926)
	checkUpdate(t, reference(b[:3]), b[3:9], 0xcbf43926)
}

// P2.2: results that are written out.
func TestAppendExamples(t *testing.T) {
	for _, c := range []struct{ text, want string }{
		{"", "\x00\x00\x00\x00"},
		{"\x00", "\x00\x8d\xef\x02\xd2"},
		{"123456789", "123456789\x26\x39\xf4\xcb"},
		{"\xff\xff\xff\xff", "\xff\xff\xff\xff\xff\xff\xff\xff"},
	} {
		if got := crc.Append([]byte(c.text)); string(got) != c.want {
			t.Errorf("Append(%x) = %x, want %x", c.text, got, c.want)
		}
	}
	if got := crc.Append(nil); !bytes.Equal(got, make([]byte, 4)) {
		t.Errorf("Append(nil) = %x", got)
	}
}

// P2.2: the string itself, and the bytes of its checksum in their order.
func TestAppendAgainstReference(t *testing.T) {
	for _, b := range texts() {
		want := slices.Concat(b, littleEndian(reference(b)))
		if got := crc.Append(b); !bytes.Equal(got, want) {
			t.Errorf("Append(%.40x) = %.60x", b, got)
		}
		checkCheck(t, want, true)
	}
}

// P2.2 with rule 4 of the document: the result is new memory, and nothing is written behind the length of the argument.
func TestAppendIsNew(t *testing.T) {
	memory := []byte("abcdefghijkl")
	b := memory[:4]
	first, second := crc.Append(b), crc.Append(b)
	if string(memory) != "abcdefghijkl" {
		t.Errorf("the argument's memory became %q", memory)
	}
	want := bytes.Clone(second)
	for i := range first {
		first[i] ^= 0x55
	}
	_ = append(first, "more"...)
	if string(memory) != "abcdefghijkl" || !bytes.Equal(second, want) {
		t.Errorf("%q, %x: shared with a result", memory, second)
	}
	memory[0] = 'x'
	if !bytes.Equal(second, want) {
		t.Errorf("%x: shared with the argument", second)
	}
}

// P2.2: strings that are too short for a checksum, and the checksum of nothing.
func TestCheckShort(t *testing.T) {
	checkCheck(t, nil, false)
	for n := range 4 {
		for _, c := range []byte{0, 1, 0xff} {
			b := bytes.Repeat([]byte{c}, n)
			checkCheck(t, b, false)
			// The four zeros that follow in the same memory would be right.
			checkCheck(t, append(b, 0, 0, 0, 0)[:n], false)
		}
	}
	checkCheck(t, []byte{0, 0, 0, 0}, true)
	checkCheck(t, []byte{0, 0, 0, 1}, false)
	checkCheck(t, []byte{0xff, 0xff, 0xff, 0xff}, false)
	checkCheck(t, []byte{0, 0, 0, 0, 0}, false)
}

// P2.2: a checksum in another order of bytes, of other bytes, in another place, or with its bits inverted.
func TestCheckRejects(t *testing.T) {
	b := []byte("123456789")
	sum := littleEndian(0xcbf43926)
	checkCheck(t, slices.Concat(b, sum), true)
	reversed := bytes.Clone(sum)
	slices.Reverse(reversed)
	checkCheck(t, slices.Concat(b, reversed), false)
	checkCheck(t, slices.Concat(b, littleEndian(^uint32(0xcbf43926))), false)
	checkCheck(t, slices.Concat(sum, b), false)
	checkCheck(t, slices.Concat(b, sum[:3]), false)
	checkCheck(t, slices.Concat(b[1:], sum), false)
	checkCheck(t, slices.Concat(b[:8], sum), false)
	checkCheck(t, slices.Concat(b, sum, []byte{0}), false)
	checkCheck(t, slices.Concat(b, []byte{0}, sum), false)
	checkCheck(t, slices.Concat(b, sum)[:8], false)
}

// P2.2: exactly one checksum is right for a string; the bytes are compared one by one.
func TestCheckEachByte(t *testing.T) {
	for _, text := range []string{"", "a", "123456789"} {
		good := slices.Concat([]byte(text), littleEndian(reference([]byte(text))))
		for i := range good {
			for c := range 256 {
				b := bytes.Clone(good)
				b[i] = byte(c)
				checkCheck(t, b, byte(c) == good[i])
			}
		}
	}
}

// P2.2: arbitrary strings, and all strings of four bytes that differ in one bit from the only right one.
func TestCheckAgainstReference(t *testing.T) {
	r := rand.New(rand.NewSource(3))
	for range 20000 {
		b := arbitrary(r, r.Intn(12))
		want := len(b) >= 4 && bytes.Equal(b[len(b)-4:], littleEndian(reference(b[:len(b)-4])))
		checkCheck(t, b, want)
	}
	for i := range 32 {
		checkCheck(t, littleEndian(1<<i), false)
	}
}

// P2.1, P2.2 with rule 4 of the document: the arguments are not modified.
func TestArgumentsAreKept(t *testing.T) {
	for _, b := range texts() {
		before := bytes.Clone(b)
		crc.Sum(b)
		crc.Update(5, b)
		crc.Append(b)
		crc.Check(b)
		if !bytes.Equal(b, before) {
			t.Errorf("%.40x became %.40x", before, b)
		}
	}
}

// P2.3: what Append returns is accepted.
func TestCheckInvertsAppend(t *testing.T) {
	for _, b := range texts() {
		c := crc.Append(b)
		checkCheck(t, c, true)
		checkCheck(t, crc.Append(c), true)
	}
}

// P2.3: all patterns of up to ten consecutive bits, in each place of short results.
func TestShortBurstsAreFound(t *testing.T) {
	for _, text := range []string{"", "\x00", "ab", "123456789"} {
		good := crc.Append([]byte(text))
		for from := range 8 * len(good) {
			left := 8*len(good) - from
			for pattern := uint32(1); pattern < 1<<min(10, left); pattern++ {
				if b := invert(good, from, pattern); crc.Check(b) {
					t.Fatalf("%x: pattern %x from bit %d was not found", good, pattern, from)
				}
			}
		}
	}
}

// P2.3: patterns of up to 32 bits whose outermost bits are anywhere, in each place, within the checksum and across its beginning as well.
func TestLongBurstsAreFound(t *testing.T) {
	r := rand.New(rand.NewSource(4))
	for _, n := range []int{0, 1, 4, 5, 40} {
		good := crc.Append(arbitrary(r, n))
		for from := 0; from+32 <= 8*len(good); from++ {
			// The divisor itself and its mirror image would be overlooked if they were patterns of 33 bits.
			patterns := []uint32{1, 1 << 31, 1<<31 | 1, math.MaxUint32, 0xedb88320, 0x04c11db7, 0xdb710641, 0x82608edb}
			for range 100 {
				patterns = append(patterns, r.Uint32()|1, r.Uint32()|1<<31, r.Uint32()>>r.Intn(31)|1)
			}
			for _, pattern := range patterns {
				if crc.Check(invert(good, from, pattern)) {
					t.Fatalf("%x: pattern %08x from bit %d was not found", good, pattern, from)
				}
			}
		}
	}
}

// P2.3: 32 bits are the bound: the 33 bits of the whole divisor are not found in any place.
func TestBurstBound(t *testing.T) {
	good := crc.Append([]byte("123456789"))
	for from := 0; from+33 <= 8*len(good); from++ {
		// The bit of the highest power stands first, and the other 32 bits in the order of a state.
		b := invert(invert(good, from, 1), from+1, 0xedb88320)
		checkCheck(t, b, true)
	}
}

// P2.1, P2.2 with rule 6 of the document: calls at the same time do not disturb each other.
func TestConcurrentCalls(t *testing.T) {
	var group sync.WaitGroup
	for i := range 8 {
		group.Go(func() {
			b := bytes.Repeat([]byte{byte(i)}, 100+i)
			for range 200 {
				if crc.Sum(b) != reference(b) || !crc.Check(crc.Append(b)) {
					t.Errorf("bytes %d: wrong checksum", i)
					return
				}
			}
		})
	}
	group.Wait()
}

// FuzzCheck compares all functions with the reference, for arbitrary strings.
func FuzzCheck(f *testing.F) {
	f.Add([]byte("12345"), []byte("6789"))
	f.Add([]byte{}, []byte{0, 0, 0, 0})
	f.Fuzz(func(t *testing.T, a, b []byte) {
		whole := slices.Concat(a, b)
		checkSum(t, whole, reference(whole))
		checkUpdate(t, reference(a), b, reference(whole))
		checkCheck(t, crc.Append(whole), true)
		want := len(whole) >= 4 && bytes.Equal(whole[len(whole)-4:], littleEndian(reference(whole[:max(0, len(whole)-4)])))
		checkCheck(t, whole, want)
	})
}

// BenchmarkSum measures a short string, where the table counts most, and a long one.
func BenchmarkSum(b *testing.B) {
	for _, c := range []struct {
		name string
		n    int
	}{{"short", 16}, {"long", 1 << 16}} {
		text := make([]byte, c.n)
		b.Run(c.name, func(b *testing.B) {
			b.SetBytes(int64(c.n))
			for b.Loop() {
				crc.Sum(text)
			}
		})
	}
}
