package intern_test

import (
	"bytes"
	"math"
	"math/rand"
	"slices"
	"strconv"
	"strings"
	"sync"
	"testing"

	"mirtower/api"
	"mirtower/intern"
	"mirtower/varint"
)

const (
	firstBytes = "ABCDEFGHIJKLMNOPQRSTUVWXYZ_abcdefghijklmnopqrstuvwxyz"
	laterBytes = "0123456789" + firstBytes
)

// long returns an identifier with a number of bytes.
func long(n int) string { return strings.Repeat("x", n) }

// join returns the concatenation of strings of bytes in new memory.
func join(parts ...[]byte) []byte { return slices.Concat(parts...) }

// decode reads an encoding at the beginning of a string of bytes; it returns the number and the bytes behind it.
func decode(b []byte) (uint64, []byte, api.Errno) {
	n, after, e := varint.Get(b, 0)
	return n, b[after:], e
}

// reference returns the encoding of a list of strings, which need not be a table.
func reference(names ...string) []byte {
	b := varint.Put(uint64(len(names)))
	for _, s := range names {
		b = join(b, varint.Put(uint64(len(s))), []byte(s))
	}
	return b
}

// identifier reports whether a string is one, as the chapter words it.
func identifier(s string) bool {
	if len(s) < 1 || len(s) > 255 || strings.IndexByte(firstBytes, s[0]) < 0 {
		return false
	}
	for _, c := range []byte(s) {
		if strings.IndexByte(laterBytes, c) < 0 {
			return false
		}
	}
	return true
}

// model decodes a table as the chapter words it.
func model(b []byte) ([]string, api.Errno) {
	n, rest, e := decode(b)
	switch {
	case e != api.OK:
		return nil, e
	case n > 1<<62:
		return nil, api.ErrLimit
	case n > uint64(len(rest)):
		return nil, api.ErrEOF
	}
	var names []string
	for i := range int(n) {
		size, behind, e := decode(rest)
		switch {
		case e != api.OK:
			return nil, e
		case size > 255:
			return nil, api.ErrLimit
		case size > uint64(len(behind)):
			return nil, api.ErrEOF
		}
		s := string(behind[:size])
		if !identifier(s) || i > 0 && strings.Compare(names[i-1], s) >= 0 {
			return nil, api.ErrString
		}
		names, rest = append(names, s), behind[size:]
	}
	if len(rest) > 0 {
		return nil, api.ErrTrailing
	}
	return names, api.OK
}

// ascending returns the distinct strings of a list in ascending order.
func ascending(names []string) []string {
	seen := map[string]bool{}
	var l []string
	for _, s := range names {
		if !seen[s] {
			seen[s] = true
			l = append(l, s)
		}
	}
	for i := range l {
		for j := i; j > 0 && bytes.Compare([]byte(l[j]), []byte(l[j-1])) < 0; j-- {
			l[j], l[j-1] = l[j-1], l[j]
		}
	}
	return l
}

// lists returns lists of identifiers, with and without repetitions and in many orders.
func lists() [][]string {
	l := [][]string{nil, {}, {"a"}, {"_"}, {long(255)}, {"a", "a"}, {"b", "a", "b"}, {"a", "b"}, {"a1", "_"}, {long(255), long(254), long(1)},
		{"aa", "a", "a_", "aA", "a0", "aaa", "A", "Z", "_", "_0", "__", "z", "Aa", "aa"}, {long(127), long(128), long(129)}}
	l = append(l, strings.Split(firstBytes, ""))
	var numbered []string
	for i := range 300 {
		numbered = append(numbered, "n"+strconv.Itoa(i))
	}
	l = append(l, numbered)
	r := rand.New(rand.NewSource(1))
	for range 200 {
		var names []string
		for range r.Intn(20) {
			names = append(names, arbitrary(r))
		}
		l = append(l, names)
	}
	return l
}

// arbitrary returns an identifier, which is often short and thus often a repetition or a prefix of another one.
func arbitrary(r *rand.Rand) string {
	const first, later = "AZ_az", "09AZ_az"
	s := []byte{first[r.Intn(len(first))]}
	for range r.Intn(4) {
		s = append(s, later[r.Intn(len(later))])
	}
	return string(s)
}

// notIdentifiers returns strings that are none, for each reason.
func notIdentifiers() []string {
	return []string{"", "1a", "0", "9_", " ", "a b", "a ", " a", "a-b", "a.b", "%a", "@f", "'r", "a\x00", "\x00", "a\n", "\xff", "a\x80", "\u00e9", "a\u00e9",
		"\uff41", "a\u0661", "\u0251", long(256), long(1000), "1" + long(255), long(254) + "\u00e9", long(254) + "-", "-" + long(254)}
}

// checkTable compares all that is seen of a table with its identifiers in ascending order.
func checkTable(t *testing.T, table *intern.Table, e api.Errno, names []string) {
	t.Helper()
	if table == nil || e != api.OK {
		t.Errorf("%.200q: table %v, %v", names, table, e)
		return
	}
	if table.Len() != len(names) {
		t.Errorf("%.200q: Len is %d", names, table.Len())
	}
	for i, s := range names {
		checkAt(t, table, i, s, true)
		checkIndex(t, table, s, i, true)
	}
	for _, i := range []int{-1, -len(names), len(names), len(names) + 1, math.MinInt, math.MaxInt} {
		if i < 0 || i >= len(names) {
			checkAt(t, table, i, "", false)
		}
	}
	for _, s := range notIdentifiers() {
		checkIndex(t, table, s, 0, false)
	}
	if b := table.Encode(); !bytes.Equal(b, reference(names...)) {
		t.Errorf("%.200q: Encode is %.400x", names, b)
	}
}

// checkAt compares a call of At with what is expected.
func checkAt(t *testing.T, table *intern.Table, i int, s string, ok bool) {
	t.Helper()
	if got, is := table.At(i); got != s || is != ok {
		t.Errorf("At(%d) = %q, %v; want %q, %v", i, got, is, s, ok)
	}
}

// checkIndex compares a call of Index with what is expected.
func checkIndex(t *testing.T, table *intern.Table, s string, i int, ok bool) {
	t.Helper()
	if got, is := table.Index(s); got != i || is != ok {
		t.Errorf("Index(%q) = %d, %v; want %d, %v", s, got, is, i, ok)
	}
}

// checkNew checks the table of a list of identifiers.
func checkNew(t *testing.T, names ...string) {
	t.Helper()
	table, e := intern.New(names...)
	checkTable(t, table, e, ascending(names))
}

// checkNotNew checks that a list has no table.
func checkNotNew(t *testing.T, names ...string) {
	t.Helper()
	if table, e := intern.New(names...); table != nil || e != api.ErrString {
		t.Errorf("New(%.200q) = %v, %v", names, table, e)
	}
}

// checkError checks that bytes are rejected with an error, by the model as well.
func checkError(t *testing.T, b []byte, e api.Errno) {
	t.Helper()
	if table, got := intern.Decode(b); table != nil || got != e {
		t.Errorf("Decode(%.400x) = %v, %v; want %v", b, table, got, e)
	}
	if _, want := model(b); want != e {
		t.Errorf("%.400x: the model has %v, the test %v", b, want, e)
	}
}

// checkModel compares Decode with the model, and what it accepts with what Encode returns.
func checkModel(t *testing.T, b []byte) {
	t.Helper()
	names, e := model(b)
	if e != api.OK {
		checkError(t, b, e)
		return
	}
	table, e := intern.Decode(b)
	checkTable(t, table, e, names)
	if again := table.Encode(); !bytes.Equal(again, b) {
		t.Errorf("%.400x was accepted and encoded as %.400x", b, again)
	}
}

// checkIdent compares a call of IsIdent with what is expected.
func checkIdent(t *testing.T, s string, want bool) {
	t.Helper()
	if got := intern.IsIdent(s); got != want {
		t.Errorf("IsIdent(%q) = %v", s, got)
	}
}

// P5.1: strings that are written out, those of the chapter among them.
func TestIsIdentExamples(t *testing.T) {
	for _, s := range []string{"a1", "_", "a", "Z", "__", "_0", "x_y_9", "AbC", "a" + strings.Repeat("0", 254)} {
		checkIdent(t, s, true)
	}
	for _, s := range notIdentifiers() {
		checkIdent(t, s, false)
	}
}

// P5.1: all strings of one and of two bytes.
func TestIsIdentShort(t *testing.T) {
	for i := range 256 {
		checkIdent(t, string([]byte{byte(i)}), strings.IndexByte(firstBytes, byte(i)) >= 0)
		for j := range 256 {
			want := strings.IndexByte(firstBytes, byte(i)) >= 0 && strings.IndexByte(laterBytes, byte(j)) >= 0
			checkIdent(t, string([]byte{byte(i), byte(j)}), want)
		}
	}
}

// P5.1: each byte in each place of longer strings.
func TestIsIdentBytes(t *testing.T) {
	for _, n := range []int{3, 17, 254, 255, 256} {
		for at := range n {
			for c := range 256 {
				b := []byte(long(n))
				b[at] = byte(c)
				checkIdent(t, string(b), identifier(string(b)))
			}
		}
	}
}

// P5.1: all lengths up to the greatest one, and lengths above it.
func TestIsIdentLengths(t *testing.T) {
	for n := 1; n <= 255; n++ {
		checkIdent(t, long(n), true)
		checkIdent(t, "_"+strings.Repeat("9", n-1), true)
	}
	for n := 256; n <= 1024; n++ {
		checkIdent(t, long(n), false)
	}
	checkIdent(t, long(1<<16+1), false)
}

// P5.2 to P5.4: the example of the chapter.
func TestExample(t *testing.T) {
	table, e := intern.New("b", "a", "b")
	checkTable(t, table, e, []string{"a", "b"})
	if b := table.Encode(); !bytes.Equal(b, []byte{2, 1, 0x61, 1, 0x62}) {
		t.Errorf("Encode is %x", b)
	}
	table, e = intern.Decode([]byte{2, 1, 0x61, 1, 0x62})
	checkTable(t, table, e, []string{"a", "b"})
}

// P5.2 and P5.3: tables of many lists; no list at all has the empty table.
func TestNew(t *testing.T) {
	table, e := intern.New()
	checkTable(t, table, e, nil)
	for _, names := range lists() {
		checkNew(t, names...)
	}
}

// P5.2: the order is that of the bytes, and a proper prefix is less.
func TestNewOrder(t *testing.T) {
	want := []string{"A", "A9", "AA", "A_", "Aa", "B", "Z", "_", "_0", "__", "a", "a0", "a00", "a1", "a10", "a2", "aA", "aZ", "a_", "aa", "az", "b"}
	for shift := range want {
		names := append(slices.Clone(want[shift:]), want[:shift]...)
		table, e := intern.New(names...)
		checkTable(t, table, e, want)
		slices.Reverse(names)
		table, e = intern.New(append(names, names...)...)
		checkTable(t, table, e, want)
	}
}

// P5.2: strings that are no identifiers, alone and in each place among identifiers.
func TestNewErrors(t *testing.T) {
	for _, bad := range notIdentifiers() {
		checkNotNew(t, bad)
		checkNotNew(t, bad, bad)
		for at := range 5 {
			names := []string{"b", "a", "b", "c"}
			checkNotNew(t, slices.Insert(names, at, bad)...)
		}
	}
}

// P5.2 with rule 4 of the document: the argument is not modified, nothing behind its length is read, and the table does not change with it.
func TestNewKeepsArgument(t *testing.T) {
	memory := []string{"c", "a", "c", "b", "1", ""}
	names := memory[:4]
	table, e := intern.New(names...)
	if want := []string{"c", "a", "c", "b", "1", ""}; !slices.Equal(memory, want) {
		t.Errorf("the argument became %q", memory)
	}
	checkTable(t, table, e, []string{"a", "b", "c"})
	for i := range memory {
		memory[i] = "d"
	}
	checkTable(t, table, e, []string{"a", "b", "c"})
}

// P5.3: identifiers that a table does not contain, below, between and above those that it contains.
func TestIndexOfOthers(t *testing.T) {
	all := []string{"A", "B", "_", "a", "a0", "aa", "ab", "b", "z", "zz"}
	for set := range 1 << len(all) {
		var names []string
		for i, s := range all {
			if set>>i&1 == 1 {
				names = append(names, s)
			}
		}
		table, e := intern.New(names...)
		if e != api.OK {
			t.Fatalf("%q: %v", names, e)
		}
		for i, s := range names {
			checkIndex(t, table, s, i, true)
		}
		for _, s := range all {
			if !slices.Contains(names, s) {
				checkIndex(t, table, s, 0, false)
			}
		}
	}
}

// P5.3: At and Index of each other byte and each prefix of an identifier that a table contains.
func TestIndexOfSimilar(t *testing.T) {
	const name = "name_7"
	table, _ := intern.New(name, "m", "o")
	checkIndex(t, table, name, 1, true)
	for n := range len(name) {
		checkIndex(t, table, name[:n], 0, false)
		checkIndex(t, table, name[n:]+name[:n]+"x", 0, false)
		for c := range 256 {
			b := []byte(name)
			b[n] = byte(c)
			if string(b) != name {
				checkIndex(t, table, string(b), 0, false)
			}
		}
	}
}

// P5.2 to P5.5: a table with more identifiers than a list of a body has elements, and with each length.
func TestGreatTable(t *testing.T) {
	var names []string
	for i := range 70000 {
		names = append(names, "n"+strconv.Itoa(100000+i))
	}
	for n := 1; n <= 255; n++ {
		names = append(names, long(n))
	}
	shuffled := slices.Clone(names)
	rand.New(rand.NewSource(2)).Shuffle(len(shuffled), func(i, j int) { shuffled[i], shuffled[j] = shuffled[j], shuffled[i] })
	table, e := intern.New(shuffled...)
	if e != api.OK {
		t.Fatal(e)
	}
	var b bytes.Buffer
	b.Write(varint.Put(uint64(len(names))))
	for _, s := range names {
		b.Write(varint.Put(uint64(len(s))))
		b.WriteString(s)
	}
	if !bytes.Equal(table.Encode(), b.Bytes()) {
		t.Error("another encoding")
	}
	table, e = intern.Decode(b.Bytes())
	if e != api.OK || table.Len() != len(names) {
		t.Fatalf("%v, Len is %d", e, table.Len())
	}
	for i, s := range names {
		checkAt(t, table, i, s, true)
		checkIndex(t, table, s, i, true)
	}
}

// The sentence below the function list: nil tables.
func TestNil(t *testing.T) {
	var table *intern.Table
	if table.Len() != 0 || len(table.Encode()) != 0 {
		t.Errorf("Len is %d, Encode is %x", table.Len(), table.Encode())
	}
	for _, i := range []int{0, 1, -1, math.MinInt, math.MaxInt} {
		checkAt(t, table, i, "", false)
	}
	for _, s := range []string{"", "a", "1", long(256)} {
		checkIndex(t, table, s, 0, false)
	}
}

// P5.4 with rule 4 of the document: a result shares memory neither with the table nor with another result.
func TestEncodeIsSeparate(t *testing.T) {
	table, e := intern.New("one", "two", "three")
	first, second := table.Encode(), table.Encode()
	for i := range first {
		first[i] = 0xff
	}
	_ = append(first, 0xff)
	checkTable(t, table, e, []string{"one", "three", "two"})
	if !bytes.Equal(second, reference("one", "three", "two")) {
		t.Errorf("%x: shared with another result", second)
	}
}

// P5.4: the argument is not modified, nothing behind its length is read, and the table does not change with it.
func TestDecodeKeepsArgument(t *testing.T) {
	memory := join(reference("one", "three", "two"), []byte("behind"))
	before := bytes.Clone(memory)
	b := memory[:len(memory)-6]
	table, e := intern.Decode(b)
	if !bytes.Equal(memory, before) {
		t.Errorf("%x became %x", before, memory)
	}
	checkError(t, memory[:len(b)-1], api.ErrEOF)
	for i := range memory {
		memory[i] = 'x'
	}
	checkTable(t, table, e, []string{"one", "three", "two"})
}

// P5.4: numbers of identifiers that are no encodings, too great, or greater than the number of bytes behind them.
func TestDecodeCount(t *testing.T) {
	for _, behind := range [][]byte{nil, {0}, {1, 'a'}, {1, 'a', 1, 'b'}, {9}, bytes.Repeat([]byte{0x80}, 12)} {
		for n := range 9 {
			if len(behind) == 0 {
				checkError(t, bytes.Repeat([]byte{0x81}, n), api.ErrEOF)
			}
			checkError(t, join(bytes.Repeat([]byte{0x81}, n+1), []byte{0}, behind), api.ErrMinimal)
		}
		nines := bytes.Repeat([]byte{0x80}, 9)
		checkError(t, join(nines, []byte{2}, behind), api.ErrOverflow)
		checkError(t, join(nines, []byte{0x81}, behind), api.ErrOverflow)
		for _, n := range []uint64{1<<62 + 1, 1<<62 + 2, math.MaxInt64, 1 << 63, 1<<63 + 1, math.MaxUint64} {
			checkError(t, join(varint.Put(n), behind), api.ErrLimit)
		}
		for _, n := range []uint64{1 << 62, 1<<62 - 1, 1 << 61, 1 << 32, 1<<32 + 1, 1 << 31, math.MaxInt32, 100, uint64(len(behind)) + 1} {
			checkError(t, join(varint.Put(n), behind), api.ErrEOF)
		}
	}
	// As many identifiers as bytes behind are no contradiction yet, but each one takes two.
	checkError(t, []byte{2, 1, 'a'}, api.ErrEOF)
	checkError(t, []byte{3, 1, 'a'}, api.ErrEOF)
	checkError(t, []byte{2, 0x80, 0}, api.ErrMinimal)
}

// P5.4: lengths of the first and of a later identifier that are no encodings or too great.
func TestDecodeLengths(t *testing.T) {
	for _, before := range [][]string{nil, {"a"}, {"A", "b"}} {
		head := reference(before...)
		head[0]++
		check := func(e api.Errno, parts ...[]byte) {
			t.Helper()
			checkError(t, join(head, join(parts...)), e)
		}
		check(api.ErrEOF, []byte{0x80})
		check(api.ErrEOF, bytes.Repeat([]byte{0xff}, 9))
		check(api.ErrMinimal, []byte{0x80, 0})
		check(api.ErrMinimal, []byte{0x81, 0, 'c'})
		check(api.ErrMinimal, bytes.Repeat([]byte{0x80}, 9), []byte{0})
		check(api.ErrOverflow, bytes.Repeat([]byte{0xff}, 10), []byte{'c'})
		check(api.ErrOverflow, bytes.Repeat([]byte{0x80}, 9), []byte{2})
		for _, n := range []uint64{256, 257, 300, 1 << 16, 1 << 31, 1 << 32, 1<<32 + 1, 1 << 62, math.MaxInt64, 1 << 63, 1<<63 + 1, math.MaxUint64} {
			check(api.ErrLimit, varint.Put(n))
			check(api.ErrLimit, varint.Put(n), []byte("c"))
			check(api.ErrLimit, varint.Put(n), []byte(long(256)))
		}
		for n := 1; n <= 255; n++ {
			check(api.ErrEOF, varint.Put(uint64(n)))
			check(api.ErrEOF, varint.Put(uint64(n)), []byte(long(n-1)))
			// Too few bytes precede what the bytes are.
			check(api.ErrEOF, varint.Put(uint64(n)), bytes.Repeat([]byte{'-'}, n-1))
		}
	}
}

// P5.4: strings that are no identifiers, in each place and whatever follows.
func TestDecodeIdentifiers(t *testing.T) {
	for _, bad := range notIdentifiers() {
		if len(bad) > 255 {
			checkError(t, reference(bad), api.ErrLimit)
			continue
		}
		checkError(t, reference(bad), api.ErrString)
		checkError(t, reference(bad, "zzz"), api.ErrString)
		checkError(t, reference("zzz", bad), api.ErrString)
		checkError(t, reference("a", bad, "zzz"), api.ErrString)
		checkError(t, join(reference(bad), []byte{0}), api.ErrString)
	}
	for c := range 256 {
		checkModel(t, reference(string([]byte{byte(c)})))
		checkModel(t, reference(string([]byte{'A', byte(c)}), "z"))
		checkModel(t, reference("A", string([]byte{'a', 'b', byte(c)})))
	}
}

// P5.4: identifiers that are equal to the one before or less.
func TestDecodeOrder(t *testing.T) {
	names := []string{"A", "A0", "AA", "Z", "_", "a", "a0", "a00", "a1", "a_", "aa", "b", long(254), long(255)}
	for i, s := range names {
		for j, next := range names {
			if i >= j {
				checkError(t, reference(s, next), api.ErrString)
				checkError(t, reference("A", "A", s, next), api.ErrString)
				checkError(t, reference("0", s, next), api.ErrString)
			} else {
				checkModel(t, reference(s, next))
			}
		}
	}
	// Each identifier counts for the next one, not only the first.
	checkError(t, reference("a", "c", "b"), api.ErrString)
	checkError(t, reference("a", "c", "c"), api.ErrString)
	checkError(t, reference("a", "b", "c", "b", "d"), api.ErrString)
}

// P5.4: bytes behind the last identifier.
func TestDecodeTrailing(t *testing.T) {
	for _, names := range lists() {
		b := reference(ascending(names)...)
		for c := range 256 {
			checkError(t, join(b, []byte{byte(c)}), api.ErrTrailing)
		}
		checkError(t, join(b, b), api.ErrTrailing)
	}
	checkError(t, []byte{0, 0}, api.ErrTrailing)
	checkError(t, []byte{0, 0x80}, api.ErrTrailing)
}

// P5.4: the first identifier with an error decides, and one without an error behind it changes nothing.
func TestFirstError(t *testing.T) {
	bad := []struct {
		b []byte
		e api.Errno
	}{
		{[]byte{0x80, 0}, api.ErrMinimal},
		{bytes.Repeat([]byte{0xff}, 10), api.ErrOverflow},
		{[]byte{0x80, 2}, api.ErrLimit},
		{[]byte{0}, api.ErrString},
		{[]byte{1, '0'}, api.ErrString},
		{[]byte{1, 'a'}, api.ErrString},
	}
	good := []byte{1, 'b'}
	for _, first := range bad {
		checkError(t, join([]byte{3}, good, first.b, []byte{1, 'c'}), first.e)
		for _, second := range bad {
			checkError(t, join([]byte{3}, good, first.b, second.b), first.e)
		}
		checkError(t, join([]byte{2}, good, first.b, []byte{0}), first.e)
	}
	checkError(t, join([]byte{3}, good), api.ErrEOF)
	checkError(t, join([]byte{2}, good, []byte{5}), api.ErrEOF)
	// The number of identifiers precedes all of them.
	checkError(t, []byte{9, 0, 0}, api.ErrEOF)
}

// P5.5: Decode inverts Encode, and Encode inverts Decode.
func TestDecodeInvertsEncode(t *testing.T) {
	for _, names := range lists() {
		table, e := intern.New(names...)
		if e != api.OK {
			t.Errorf("%q: %v", names, e)
			continue
		}
		b := table.Encode()
		again, e := intern.Decode(b)
		checkTable(t, again, e, ascending(names))
		if !bytes.Equal(again.Encode(), b) {
			t.Errorf("%x became %x", b, again.Encode())
		}
	}
}

// P5.5: no proper prefix of an encoding is accepted, since the number of identifiers comes first.
func TestPrefixes(t *testing.T) {
	for _, names := range lists() {
		b := reference(ascending(names)...)
		for n := range b {
			checkError(t, b[:n], api.ErrEOF)
		}
	}
}

// P5.5: the order and the repetitions of the arguments make no difference.
func TestOrderOfArguments(t *testing.T) {
	r := rand.New(rand.NewSource(3))
	for _, names := range lists() {
		table, _ := intern.New(names...)
		want := table.Encode()
		for range 10 {
			other := append(slices.Clone(names), names[:r.Intn(len(names)+1)]...)
			r.Shuffle(len(other), func(i, j int) { other[i], other[j] = other[j], other[i] })
			table, e := intern.New(other...)
			if e != api.OK || !bytes.Equal(table.Encode(), want) {
				t.Errorf("%q: %v, %x", other, e, table.Encode())
			}
		}
	}
}

// P5.4 and P5.5: all strings of at most two bytes, and of three whose bytes are at the edges.
func TestShortAgainstModel(t *testing.T) {
	checkModel(t, nil)
	checkModel(t, []byte{})
	edges := []byte{0, 1, 2, 3, '0', '@', 'A', 'Z', '_', 'a', 'z', '{', 0x7f, 0x80, 0xff}
	for i := range 256 {
		checkModel(t, []byte{byte(i)})
		for j := range 256 {
			checkModel(t, []byte{byte(i), byte(j)})
		}
	}
	for _, i := range edges {
		for _, j := range edges {
			for _, k := range edges {
				checkModel(t, []byte{i, j, k})
				checkModel(t, []byte{2, 1, i, j, k})
			}
		}
	}
}

// P5.4 and P5.5: encodings with arbitrary changes, compared with the model.
func TestAgainstModel(t *testing.T) {
	r := rand.New(rand.NewSource(4))
	edges := []byte{0, 1, 2, 3, '0', 'A', '_', 'a', 'z', 0x7f, 0x80, 0x81, 0xff}
	for range 20000 {
		var names []string
		for range r.Intn(6) {
			names = append(names, arbitrary(r))
		}
		if r.Intn(4) > 0 {
			names = ascending(names)
		}
		b := reference(names...)
		for range r.Intn(3) {
			b[r.Intn(len(b))] = edges[r.Intn(len(edges))]
		}
		if r.Intn(4) == 0 {
			b = b[:r.Intn(len(b)+1)]
		}
		checkModel(t, b)
	}
}

// P2 of the document: tables of the same identifiers, and failed calls, do not disturb each other.
func TestTablesAreIndependent(t *testing.T) {
	first, e := intern.New("b", "a")
	second, f := intern.New("b", "c", "a")
	third, g := intern.Decode(second.Encode())
	checkNotNew(t, "d", "0")
	checkError(t, []byte{1, 1}, api.ErrEOF)
	checkTable(t, first, e, []string{"a", "b"})
	checkTable(t, second, f, []string{"a", "b", "c"})
	checkTable(t, third, g, []string{"a", "b", "c"})
}

// Rule 6 of the document: functions and separate tables may be used concurrently.
func TestConcurrentTables(t *testing.T) {
	var group sync.WaitGroup
	shared := []string{"y", "x", "y"}
	for i := range 8 {
		group.Go(func() {
			own := "n" + strconv.Itoa(i)
			for range 200 {
				checkNew(t, shared...)
				checkNew(t, append([]string{own}, shared...)...)
				checkModel(t, reference(own, "x", "y"))
			}
		})
	}
	group.Wait()
}

// FuzzDecode compares Decode with the model for arbitrary bytes, and IsIdent and New for the same bytes as a string.
func FuzzDecode(f *testing.F) {
	f.Add([]byte{})
	f.Add(reference())
	f.Add(reference("a", "b"))
	f.Add(reference("b", "a"))
	f.Add(reference(long(255)))
	f.Add([]byte("name_7"))
	f.Fuzz(func(t *testing.T, b []byte) {
		checkModel(t, b)
		s := string(b)
		checkIdent(t, s, identifier(s))
		if identifier(s) {
			checkNew(t, s, "m", s)
		} else {
			checkNotNew(t, s, "m", s)
		}
	})
}
