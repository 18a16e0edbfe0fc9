package wire_test

import (
	"bytes"
	"math"
	"math/rand"
	"slices"
	"strings"
	"sync"
	"testing"

	"mirtower/api"
	"mirtower/wire"
)

// encoding encodes a number by division, as chapter 1 defines the groups.
func encoding(n uint64) []byte {
	var out []byte
	for n >= 128 {
		out = append(out, byte(n%128)+128)
		n /= 128
	}
	return append(out, byte(n))
}

// zigzag returns the position of a number in the order 0, -1, 1, -2, 2 and so on.
func zigzag(n int64) uint64 {
	if n < 0 {
		return uint64(-(n+1))*2 + 1
	}
	return uint64(n) * 2
}

// unzigzag returns the number at a position of that order.
func unzigzag(u uint64) int64 {
	if u%2 == 1 {
		return -int64(u/2) - 1
	}
	return int64(u / 2)
}

// join returns the concatenation of strings of bytes in new memory.
func join(parts ...[]byte) []byte { return slices.Concat(parts...) }

// repeat returns a number of equal bytes.
func repeat(c byte, n int) []byte { return bytes.Repeat([]byte{c}, n) }

// numbers returns the edges of all lengths and of all bits, and arbitrary numbers of all magnitudes.
func numbers() []uint64 {
	l := []uint64{0, 1, 2, 127, 128, 300, math.MaxInt64, 1 << 63, math.MaxUint64 - 1, math.MaxUint64}
	for s := range 64 {
		p := uint64(1) << s
		l = append(l, p-1, p, p+1)
	}
	r := rand.New(rand.NewSource(1))
	for i := range 500 {
		l = append(l, r.Uint64()>>(i%64))
	}
	return l
}

// words returns strings of lengths of one, two and three groups, with bytes that are not text.
func words() []string {
	return []string{"", "a", "ab", "\x00", "\xff\xfe\x80", "\u00e9\u4e16", strings.Repeat("x", 127), strings.Repeat("\x80", 128),
		strings.Repeat("ab", 150), strings.Repeat("q", 16383), strings.Repeat("\xff", 16384), strings.Repeat("z", 70000)}
}

// model reads a string of bytes as the chapter words it.
type model struct {
	rest []byte
	err  api.Errno
}

// number reads an encoding; the error is not noted.
func (m *model) number() (uint64, api.Errno) {
	var n uint64
	for i := 0; i < len(m.rest); i++ {
		c := m.rest[i]
		if i == 9 && c > 1 {
			return 0, api.ErrOverflow
		}
		n += uint64(c%128) << (7 * i)
		if c >= 128 {
			continue
		}
		if c == 0 && i > 0 {
			return 0, api.ErrMinimal
		}
		m.rest = m.rest[i+1:]
		return n, api.OK
	}
	return 0, api.ErrEOF
}

// byte1 reads a byte.
func (m *model) byte1() byte {
	b := m.take(1)
	if m.err != api.OK {
		return 0
	}
	return b[0]
}

// uint reads a number that is at most a limit.
func (m *model) uint(most uint64) uint64 {
	if m.err != api.OK {
		return 0
	}
	n, e := m.number()
	if e == api.OK && n > most {
		e = api.ErrLimit
	}
	if m.err = e; e != api.OK {
		return 0
	}
	return n
}

// take reads a number of bytes.
func (m *model) take(n int) []byte {
	if m.err != api.OK {
		return nil
	}
	if n < 0 {
		m.err = api.ErrArg
		return nil
	}
	if n > len(m.rest) {
		m.err = api.ErrEOF
		return nil
	}
	out := m.rest[:n]
	m.rest = m.rest[n:]
	return out
}

// count reads a number that is at most a limit and at most the number of bytes after it.
func (m *model) count(most int) int {
	if m.err != api.OK {
		return 0
	}
	n, e := m.number()
	switch {
	case e != api.OK:
		m.err = e
	case most < 0, n > uint64(most):
		m.err = api.ErrLimit
	case n > uint64(len(m.rest)):
		m.err = api.ErrEOF
	default:
		return int(n)
	}
	return 0
}

// text reads a string.
func (m *model) text(most int) string {
	n := m.count(most)
	return string(m.take(n))
}

// left returns the number of bytes that are left.
func (m *model) left() int {
	if m.err != api.OK {
		return 0
	}
	return len(m.rest)
}

// end returns the error, or ErrTrailing if bytes are left.
func (m *model) end() api.Errno {
	if m.err == api.OK && len(m.rest) > 0 {
		return api.ErrTrailing
	}
	return m.err
}

// step makes a call of a reader and of its model, which a number selects, and compares the results.
func step(t *testing.T, r *wire.Reader, m *model, call, most int) {
	t.Helper()
	same := true
	switch call % 7 {
	case 0:
		same = r.Byte() == m.byte1()
	case 1:
		same = r.Uint(uint64(most)) == m.uint(uint64(most))
	case 2:
		same = r.Int() == unzigzag(m.uint(math.MaxUint64))
	case 3:
		same = bytes.Equal(r.Take(most), m.take(most))
	case 4:
		same = r.String(most) == m.text(most)
	case 5:
		same = r.Count(most) == m.count(most)
	case 6:
		// Few errors, so that the other calls are not all in vain.
		if most == 0 || most < -5 {
			r.Fail(api.Errno(most))
			if m.err == api.OK {
				m.err = api.Errno(most)
			}
		}
	}
	if !same {
		t.Errorf("call %d with %d differs from its model", call%7, most)
	}
	checkState(t, r, m.left(), m.err, m.end())
}

// checkState compares what Left, Err and End return with what is expected.
func checkState(t *testing.T, r *wire.Reader, left int, err, end api.Errno) {
	t.Helper()
	if r.Left() != left || r.Err() != err || r.End() != end {
		t.Errorf("Left, Err, End = %d, %v, %v; want %d, %v, %v", r.Left(), r.Err(), r.End(), left, err, end)
	}
}

// checkError checks that a reader has an error, and that all its calls do nothing and return zero values.
func checkError(t *testing.T, r *wire.Reader, e api.Errno) {
	t.Helper()
	for range 2 {
		checkState(t, r, 0, e, e)
		if c, u, n := r.Byte(), r.Uint(math.MaxUint64), r.Int(); c != 0 || u != 0 || n != 0 {
			t.Errorf("with an error: Byte %d, Uint %d, Int %d", c, u, n)
		}
		if b, s, n := r.Take(1), r.String(math.MaxInt), r.Count(math.MaxInt); len(b) != 0 || s != "" || n != 0 {
			t.Errorf("with an error: Take %x, String %q, Count %d", b, s, n)
		}
		r.Take(-1)
		r.Take(0)
		r.Uint(0)
		r.String(-1)
		r.Count(-1)
	}
}

// checkBytes compares the bytes of a writer with what is expected.
func checkBytes(t *testing.T, w *wire.Writer, want []byte) {
	t.Helper()
	if got := w.Bytes(); !bytes.Equal(got, want) {
		t.Errorf("Bytes() = %.60x, want %.60x", got, want)
	}
}

// failing is a call of a reader that is to fail: it reports whether the call returned the zero value.
type failing func(r *wire.Reader) bool

// uintUpTo, take, text and count return calls with their arguments.
func uintUpTo(most uint64) failing { return func(r *wire.Reader) bool { return r.Uint(most) == 0 } }
func take(n int) failing           { return func(r *wire.Reader) bool { return len(r.Take(n)) == 0 } }
func text(most int) failing        { return func(r *wire.Reader) bool { return r.String(most) == "" } }
func count(most int) failing       { return func(r *wire.Reader) bool { return r.Count(most) == 0 } }
func signed(r *wire.Reader) bool   { return r.Int() == 0 }

// checkFails checks the error of a call at the beginning of a string of bytes, and behind another byte.
func checkFails(t *testing.T, b []byte, call failing, e api.Errno) {
	t.Helper()
	for _, r := range []*wire.Reader{wire.NewReader(b), wire.NewReader(join([]byte{0}, b))} {
		if r.Left() > len(b) {
			r.Byte()
		}
		if !call(r) {
			t.Errorf("%.30x: a value together with an error", b)
		}
		checkError(t, r, e)
	}
}

// P3.1: a new writer has no bytes, and separate ones are independent.
func TestNewWriterIsEmpty(t *testing.T) {
	first, second := wire.NewWriter(), wire.NewWriter()
	checkBytes(t, first, nil)
	first.Byte(1)
	first.String("x")
	checkBytes(t, second, nil)
	second.Byte(2)
	checkBytes(t, first, []byte{1, 1, 'x'})
	checkBytes(t, second, []byte{2})
}

// P3.1: written-out examples, among them the one of the chapter.
func TestWriterExamples(t *testing.T) {
	w := wire.NewWriter()
	w.Uint(300)
	w.String("ab")
	checkBytes(t, w, []byte{0xac, 2, 2, 'a', 'b'})
	w.Byte(0)
	w.Byte(0xff)
	checkBytes(t, w, []byte{0xac, 2, 2, 'a', 'b', 0, 0xff})
	w.Int(0)
	w.Int(-1)
	w.Int(1)
	w.Int(-64)
	w.Int(64)
	checkBytes(t, w, []byte{0xac, 2, 2, 'a', 'b', 0, 0xff, 0, 1, 2, 0x7f, 0x80, 1})
	w = wire.NewWriter()
	w.String("")
	w.Uint(0)
	w.Uint(math.MaxUint64)
	w.Int(math.MinInt64)
	w.Int(math.MaxInt64)
	ones := repeat(0xff, 9)
	checkBytes(t, w, join([]byte{0, 0}, ones, []byte{1}, ones, []byte{1}, []byte{0xfe}, ones[1:], []byte{1}))
}

// P3.1: every byte, numbers of all magnitudes with both signs, and strings of many lengths, one after the other.
func TestWriterAppends(t *testing.T) {
	w, want := wire.NewWriter(), []byte{}
	for c := range 256 {
		w.Byte(byte(c))
		want = append(want, byte(c))
	}
	for _, n := range numbers() {
		w.Uint(n)
		w.Int(int64(n))
		w.Int(-int64(n))
		want = join(want, encoding(n), encoding(zigzag(int64(n))), encoding(zigzag(-int64(n))))
	}
	for _, s := range words() {
		w.String(s)
		want = join(want, encoding(uint64(len(s))), []byte(s))
	}
	checkBytes(t, w, want)
}

// P3.1: Bytes returns all bytes again and again, each time in new memory.
func TestBytesIsNewlyAllocated(t *testing.T) {
	w := wire.NewWriter()
	var want []byte
	for i := range 40 {
		first, second := w.Bytes(), w.Bytes()
		for j := range first {
			first[j] = 0x55
		}
		_ = append(first, 0x66, 0x66, 0x66)
		checkBytes(t, w, want)
		if !bytes.Equal(second, want) {
			t.Errorf("a result became %x after another was changed", second)
		}
		w.Byte(byte(i))
		if !bytes.Equal(second, want) {
			t.Errorf("a result became %x after a call of Byte", second)
		}
		want = append(want, byte(i))
	}
}

// P3.2: a reader is at the beginning, has no error, and reads every byte in order.
func TestReaderBytes(t *testing.T) {
	var b []byte
	for c := range 256 {
		b = append(b, byte(c))
	}
	r := wire.NewReader(b)
	for i, c := range b {
		checkState(t, r, 256-i, api.OK, api.ErrTrailing)
		if got := r.Byte(); got != c {
			t.Errorf("byte %d: %x", i, got)
		}
	}
	checkState(t, r, 0, api.OK, api.OK)
	if r.Byte() != 0 {
		t.Error("a byte behind the end")
	}
	checkError(t, r, api.ErrEOF)
	for _, b := range [][]byte{nil, {}} {
		checkState(t, wire.NewReader(b), 0, api.OK, api.OK)
		checkFails(t, b, func(r *wire.Reader) bool { return r.Byte() == 0 }, api.ErrEOF)
	}
}

// P3.2: the reader has a copy, does not change the argument, and reads nothing behind its length.
func TestReaderHasCopy(t *testing.T) {
	b := []byte{1, 2, 3, 2, 'a', 'b', 9, 9}
	before := bytes.Clone(b)
	r := wire.NewReader(b[:6])
	for i := range b {
		b[i] = 0xff
	}
	if r.Byte() != 1 || !bytes.Equal(r.Take(2), []byte{2, 3}) || r.String(2) != "ab" {
		t.Error("the reader changed with the argument")
	}
	checkState(t, r, 0, api.OK, api.OK)
	copy(b, before)
	r = wire.NewReader(b)
	got := r.Take(3)
	got[0] = 7
	r.String(2)
	r.Uint(9)
	if !bytes.Equal(b, before) {
		t.Errorf("%x became %x", before, b)
	}
	checkFails(t, b[:5][3:], text(2), api.ErrEOF)
}

// P3.2: Uint of numbers of all magnitudes, with limits at, above and below the number.
func TestUint(t *testing.T) {
	for _, n := range numbers() {
		b := join(encoding(n), []byte{0x80})
		for _, most := range []uint64{n, n | 1, math.MaxUint64, max(n, math.MaxInt64)} {
			r := wire.NewReader(b)
			if got := r.Uint(most); got != n {
				t.Errorf("Uint(%d) = %d, want %d", most, got, n)
			}
			checkState(t, r, 1, api.OK, api.ErrTrailing)
		}
		if n > 0 {
			for _, most := range []uint64{0, n - 1, n / 2} {
				checkFails(t, b, uintUpTo(most), api.ErrLimit)
			}
		}
	}
	checkFails(t, []byte{5}, uintUpTo(4), api.ErrLimit)
}

// P3.2: Int of numbers of all magnitudes, with both signs.
func TestInt(t *testing.T) {
	for _, u := range numbers() {
		r := wire.NewReader(join(encoding(u), []byte{7}))
		if got := r.Int(); got != unzigzag(u) {
			t.Errorf("the inverse of %d is %d, want %d", u, got, unzigzag(u))
		}
		checkState(t, r, 1, api.OK, api.ErrTrailing)
	}
	for i, want := range []int64{0, -1, 1, -2, 2, -3} {
		if got := wire.NewReader([]byte{byte(i)}).Int(); got != want {
			t.Errorf("%d stands for %d, want %d", i, got, want)
		}
	}
}

// P3.2 and P3.3: the errors of an encoding, which precede ErrLimit, in all calls that read one.
func TestErrorsOfEncodings(t *testing.T) {
	calls := []failing{signed, uintUpTo(0), uintUpTo(math.MaxUint64), text(0), text(-1), text(math.MaxInt), count(0), count(math.MinInt), count(math.MaxInt)}
	for _, c := range []struct {
		b []byte
		e api.Errno
	}{
		{nil, api.ErrEOF},
		{[]byte{0x80}, api.ErrEOF},
		{[]byte{0xff, 0xff}, api.ErrEOF},
		{repeat(0xff, 9), api.ErrEOF},
		{[]byte{0x80, 0}, api.ErrMinimal},
		{[]byte{0x85, 0x80, 0, 1, 1}, api.ErrMinimal},
		{join(repeat(0x80, 9), []byte{0}), api.ErrMinimal},
		{join(repeat(0x80, 9), []byte{2}), api.ErrOverflow},
		{repeat(0xff, 12), api.ErrOverflow},
	} {
		for _, call := range calls {
			checkFails(t, c.b, call, c.e)
		}
	}
}

// P3.3: Take of all numbers of bytes that are left, of none, and of the rest.
func TestTake(t *testing.T) {
	b := []byte("mirtower")
	for from := range len(b) + 1 {
		for n := range len(b) - from + 1 {
			r := wire.NewReader(b)
			if got := r.Take(from); !bytes.Equal(got, b[:from]) {
				t.Errorf("Take(%d) = %q", from, got)
			}
			if got := r.Take(n); !bytes.Equal(got, b[from:from+n]) {
				t.Errorf("Take(%d) = %q after %d bytes", n, got, from)
			}
			end := api.ErrTrailing
			if from+n == len(b) {
				end = api.OK
			}
			checkState(t, r, len(b)-from-n, api.OK, end)
		}
	}
}

// P3.3: Take of a negative number, and of more bytes than are left.
func TestTakeErrors(t *testing.T) {
	for _, b := range [][]byte{nil, {1}, repeat(9, 300)} {
		for _, n := range []int{-1, -2, -len(b) - 1, math.MinInt, math.MinInt + 1} {
			checkFails(t, b, take(n), api.ErrArg)
		}
		for _, n := range []int{len(b) + 1, len(b) + 2, math.MaxInt - 1, math.MaxInt} {
			checkFails(t, b, take(n), api.ErrEOF)
		}
	}
}

// P3.3: what Take returns shares memory with nothing, not even its capacity.
func TestTakeIsNewlyAllocated(t *testing.T) {
	b := []byte("abcdefgh")
	r := wire.NewReader(b)
	first := r.Take(3)
	for i := range first {
		first[i] = '-'
	}
	_ = append(first, "-----"...)
	_ = append(r.Take(0), "-----"...)
	second := r.Take(2)
	if !bytes.Equal(second, []byte("de")) || string(b) != "abcdefgh" {
		t.Errorf("%q, argument %q", second, b)
	}
	_ = append(second, "---"...)
	if got := r.Take(3); !bytes.Equal(got, []byte("fgh")) || string(first) != "---" {
		t.Errorf("%q, first %q", got, first)
	}
}

// P3.3: strings of many lengths, with limits at and above the length.
func TestString(t *testing.T) {
	for _, s := range words() {
		b := join(encoding(uint64(len(s))), []byte(s), []byte{1, 'x'})
		for _, most := range []int{len(s), len(s) + 1, math.MaxInt} {
			r := wire.NewReader(b)
			if got := r.String(most); got != s {
				t.Errorf("String(%d) = %.20q, want %.20q", most, got, s)
			}
			checkState(t, r, 2, api.OK, api.ErrTrailing)
			if r.String(1) != "x" {
				t.Error("the string behind it was not read")
			}
			checkState(t, r, 0, api.OK, api.OK)
		}
	}
}

// P3.3: lengths above the limit, which precede the end of the data, and lengths above what is left.
func TestStringErrors(t *testing.T) {
	checkFails(t, []byte{5}, text(9), api.ErrEOF)
	checkFails(t, []byte{5}, text(4), api.ErrLimit)
	checkFails(t, []byte{5, 'a', 'b', 'c', 'd'}, text(5), api.ErrEOF)
	checkFails(t, []byte{5, 'a', 'b', 'c', 'd', 'e'}, text(4), api.ErrLimit)
	checkFails(t, []byte{1, 'a'}, text(0), api.ErrLimit)
	for _, most := range []int{-1, -2, math.MinInt} {
		checkFails(t, []byte{0}, text(most), api.ErrLimit)
		checkFails(t, []byte{1, 'a'}, text(most), api.ErrLimit)
	}
	for _, n := range []uint64{math.MaxInt64, 1 << 63, math.MaxUint64} {
		checkFails(t, encoding(n), text(math.MaxInt64-1), api.ErrLimit)
	}
	checkFails(t, encoding(math.MaxInt64), text(math.MaxInt64), api.ErrEOF)
}

// P3.3: counts of all sizes up to what is left, which is not read, with limits at and above the count.
func TestCount(t *testing.T) {
	for _, n := range []int{0, 1, 2, 127, 128, 300, 65535} {
		b := join(encoding(uint64(n)), repeat(6, n))
		for _, most := range []int{n, n + 1, math.MaxInt} {
			r := wire.NewReader(b)
			if got := r.Count(most); got != n {
				t.Errorf("Count(%d) = %d, want %d", most, got, n)
			}
			if r.Left() != n || r.Err() != api.OK {
				t.Errorf("%d left, %v", r.Left(), r.Err())
			}
			if got := r.Take(n); !bytes.Equal(got, repeat(6, n)) {
				t.Errorf("after a count of %d: %.30x", n, got)
			}
			checkState(t, r, 0, api.OK, api.OK)
		}
	}
}

// P3.3: counts above the limit, which precede the end of the data, and counts above what is left after them.
func TestCountErrors(t *testing.T) {
	checkFails(t, []byte{5}, count(9), api.ErrEOF)
	checkFails(t, []byte{5}, count(4), api.ErrLimit)
	checkFails(t, []byte{5, 1, 2, 3, 4}, count(5), api.ErrEOF)
	checkFails(t, []byte{1}, count(1), api.ErrEOF)
	checkFails(t, []byte{1, 0}, count(0), api.ErrLimit)
	for _, most := range []int{-1, -2, math.MinInt} {
		checkFails(t, []byte{0}, count(most), api.ErrLimit)
		checkFails(t, []byte{1, 9}, count(most), api.ErrLimit)
	}
	// The encoding itself has two bytes, which do not count.
	checkFails(t, join(encoding(128), repeat(0, 127)), count(128), api.ErrEOF)
	for _, n := range []uint64{math.MaxInt64, 1 << 63, math.MaxUint64} {
		checkFails(t, encoding(n), count(math.MaxInt64-1), api.ErrLimit)
	}
	checkFails(t, encoding(math.MaxInt64), count(math.MaxInt64), api.ErrEOF)
}

// P3.4: Fail notes the first error only, of whatever value, and OK is none.
func TestFail(t *testing.T) {
	for _, e := range []api.Errno{api.ErrNil, api.ErrKind, api.ErrCommand, 24, -1, math.MaxInt, math.MinInt} {
		r := wire.NewReader([]byte{1, 2})
		r.Fail(api.OK)
		checkState(t, r, 2, api.OK, api.ErrTrailing)
		r.Fail(e)
		checkError(t, r, e)
		r.Fail(api.ErrType)
		r.Fail(api.OK)
		checkError(t, r, e)
	}
	r := wire.NewReader([]byte{0x80})
	r.Uint(1)
	r.Fail(api.ErrKind)
	checkError(t, r, api.ErrEOF)
	r = wire.NewReader(nil)
	r.Fail(api.ErrString)
	checkError(t, r, api.ErrString)
}

// P3.4: ErrTrailing is not noted, so that the rest can still be read.
func TestEndIsNotNoted(t *testing.T) {
	r := wire.NewReader([]byte{1, 2})
	for range 3 {
		checkState(t, r, 2, api.OK, api.ErrTrailing)
	}
	if r.Byte() != 1 || r.End() != api.ErrTrailing || r.Byte() != 2 {
		t.Error("End changed the reader")
	}
	checkState(t, r, 0, api.OK, api.OK)
	r = wire.NewReader([]byte{1})
	r.End()
	r.Fail(api.ErrDepth)
	checkError(t, r, api.ErrDepth)
}

// P3.4: each failed call is noted, and the first error remains although bytes are left.
func TestFirstErrorRemains(t *testing.T) {
	r := wire.NewReader([]byte{5, 6, 7})
	r.Uint(4)
	checkError(t, r, api.ErrLimit)
	r = wire.NewReader([]byte{1, 2, 3, 4})
	r.Take(5)
	checkError(t, r, api.ErrEOF)
	r = wire.NewReader([]byte{1, 2, 3, 4})
	r.Byte()
	r.Take(-3)
	checkError(t, r, api.ErrArg)
}

// P3.4 with the sentence below the function list: nil objects.
func TestNil(t *testing.T) {
	var w *wire.Writer
	w.Byte(1)
	w.Uint(1)
	w.Int(1)
	w.String("a")
	w.String("")
	checkBytes(t, w, nil)
	var r *wire.Reader
	checkError(t, r, api.ErrNil)
	r.Fail(api.ErrKind)
	r.Fail(api.OK)
	checkError(t, r, api.ErrNil)
}

// entry is a written value: a number whose use the kind says, or a string.
type entry struct {
	kind int
	n    uint64
	s    string
}

// entries returns arbitrary values.
func entries(r *rand.Rand) []entry {
	l := make([]entry, r.Intn(30))
	for i := range l {
		b := make([]byte, r.Intn(200))
		r.Read(b)
		l[i] = entry{r.Intn(4), r.Uint64() >> r.Intn(64), string(b)}
	}
	return l
}

// write writes values by the calls of their kinds.
func write(l []entry) []byte {
	w := wire.NewWriter()
	for _, v := range l {
		switch v.kind {
		case 0:
			w.Byte(byte(v.n))
		case 1:
			w.Uint(v.n)
		case 2:
			w.Int(int64(v.n))
		default:
			w.String(v.s)
		}
	}
	return w.Bytes()
}

// reads reports whether the corresponding call returns the value, with the least limit.
func (v entry) reads(r *wire.Reader) bool {
	switch v.kind {
	case 0:
		return r.Byte() == byte(v.n)
	case 1:
		return r.Uint(v.n) == v.n
	case 2:
		return r.Int() == int64(v.n)
	}
	return r.String(len(v.s)) == v.s
}

// P3.5: values of all kinds in arbitrary orders are read back, and a prefix of their bytes ends with ErrEOF.
func TestReadBack(t *testing.T) {
	random := rand.New(rand.NewSource(3))
	for range 500 {
		l := entries(random)
		b := write(l)
		r := wire.NewReader(b)
		for i, v := range l {
			if !v.reads(r) || r.Err() != api.OK {
				t.Fatalf("value %d of %v: %v", i, l, r.Err())
			}
		}
		checkState(t, r, 0, api.OK, api.OK)
		if len(b) == 0 {
			continue
		}
		r = wire.NewReader(b[:random.Intn(len(b))])
		for _, v := range l {
			v.reads(r)
		}
		if r.Err() != api.ErrEOF {
			t.Errorf("a prefix: %v", r.Err())
		}
	}
}

// P3.5: bytes that were written one by one are read by Take, and a count is read before its elements.
func TestReadBackOtherCalls(t *testing.T) {
	w := wire.NewWriter()
	w.Uint(3)
	for _, c := range []byte{7, 8, 9} {
		w.Byte(c)
	}
	r := wire.NewReader(w.Bytes())
	if n := r.Count(3); n != 3 || !bytes.Equal(r.Take(n), []byte{7, 8, 9}) {
		t.Errorf("%d elements", n)
	}
	checkState(t, r, 0, api.OK, api.OK)
}

// P3.2 to P3.4: arbitrary calls of readers of arbitrary bytes, compared with their models.
func TestReaderAgainstModel(t *testing.T) {
	random := rand.New(rand.NewSource(4))
	edges := []byte{0, 1, 2, 3, 5, 0x7f, 0x80, 0x81, 0xff}
	mosts := []int{0, 1, 2, 3, 5, 127, 128, 300, math.MaxInt, math.MaxInt - 1, -1, math.MinInt}
	for range 20000 {
		b := make([]byte, random.Intn(40))
		for i := range b {
			b[i] = edges[random.Intn(len(edges))]
		}
		r, m := wire.NewReader(b), &model{rest: b}
		for range random.Intn(20) {
			step(t, r, m, random.Intn(7), mosts[random.Intn(len(mosts))])
		}
	}
}

// P2 of the document: readers of the same bytes are independent of each other.
func TestReadersAreIndependent(t *testing.T) {
	b := []byte{1, 2, 3}
	first, second := wire.NewReader(b), wire.NewReader(b)
	first.Byte()
	checkState(t, second, 3, api.OK, api.ErrTrailing)
	second.Fail(api.ErrKind)
	checkState(t, first, 2, api.OK, api.ErrTrailing)
	if first.Byte() != 2 {
		t.Error("the other reader moved this one")
	}
}

// Rule 6 of the document: separate objects may be used concurrently.
func TestConcurrentObjects(t *testing.T) {
	var wait sync.WaitGroup
	b := write([]entry{{1, 300, ""}, {3, 0, "ab"}})
	for range 8 {
		wait.Go(func() {
			for range 200 {
				r := wire.NewReader(b)
				if r.Uint(300) != 300 || r.String(2) != "ab" || r.End() != api.OK {
					t.Error("a concurrent call differs")
				}
				if !bytes.Equal(write([]entry{{1, 300, ""}, {3, 0, "ab"}}), b) {
					t.Error("a concurrent writer differs")
				}
			}
		})
	}
	wait.Wait()
}

// FuzzReader compares a reader of arbitrary bytes with its model; the second string of bytes selects the calls.
func FuzzReader(f *testing.F) {
	f.Add([]byte{0xac, 2, 2, 'a', 'b'}, []byte{1, 255, 4, 2})
	f.Add([]byte{5}, []byte{1, 4})
	f.Add([]byte{3, 1, 2, 3}, []byte{5, 9, 3, 2, 0, 0, 3, 255})
	f.Fuzz(func(t *testing.T, b, calls []byte) {
		r, m := wire.NewReader(b), &model{rest: b}
		for i := 0; i+1 < len(calls); i += 2 {
			// The greatest argument bytes stand for the least and the greatest numbers.
			most := int(int8(calls[i+1]))
			switch most {
			case math.MaxInt8:
				most = math.MaxInt
			case math.MinInt8:
				most = math.MinInt
			}
			step(t, r, m, int(calls[i]), most)
		}
	})
}
