package bitset_test

import (
	"fmt"
	"math"
	"math/big"
	"slices"
	"strings"
	"testing"

	"recordlink/api"
	"recordlink/bitset"
)

// lengths are the lengths of valid arrays.
var lengths = []int{64, 128, 192, 256, 320, 384, 448, 512}

// far are numbers that are neither a length nor the number of a bit.
var far = []int{math.MinInt, math.MinInt + 1, math.MinInt + 64, math.MinInt32, -513, -512, -128, -65, -64, -63, -1, 513, 576, 1 << 20, math.MaxInt32, math.MaxInt - 63, math.MaxInt}

// invalid returns arrays that are not valid.
func invalid() []api.Bits {
	list := []api.Bits{
		{}, {Words: []uint64{}}, {Words: []uint64{1}}, {Length: 64}, {Length: 64, Words: []uint64{}}, {Length: 512},
		{Length: 64, Words: []uint64{1, 2}}, {Length: 128, Words: []uint64{1}}, {Length: 128, Words: []uint64{1, 2, 3}},
		{Length: 512, Words: make([]uint64, 7)}, {Length: 512, Words: make([]uint64, 9)},
		{Length: 576, Words: make([]uint64, 9)}, {Length: 640, Words: make([]uint64, 10)}, {Length: 1024, Words: make([]uint64, 16)},
		{Length: -64, Words: []uint64{1}}, {Length: 64, Words: make([]uint64, 8)},
	}
	for _, n := range append([]int{1, 32, 63, 65, 96, 127, 129, 511}, far...) {
		for words := range 10 {
			list = append(list, api.Bits{Length: n, Words: ones(words)})
		}
	}
	return list
}

// ones returns words of which all bits are set.
func ones(n int) []uint64 {
	words := make([]uint64, n)
	for i := range words {
		words[i] = math.MaxUint64
	}
	return words
}

// full returns an array of which all bits are set.
func full(length int) api.Bits { return api.Bits{Length: length, Words: ones(length / 64)} }

// mixed returns an array whose bits depend on a seed.
func mixed(length int, seed uint64) api.Bits {
	b := api.Bits{Length: length, Words: make([]uint64, length/64)}
	for i := range b.Words {
		seed = seed*6364136223846793005 + 1442695040888963407
		b.Words[i] = seed ^ seed>>29
	}
	return b
}

// samples returns valid arrays of a length.
func samples(length int) []api.Bits {
	list := []api.Bits{{Length: length, Words: make([]uint64, length/64)}, full(length)}
	for seed := range uint64(4) {
		list = append(list, mixed(length, seed+uint64(length)))
	}
	return list
}

// bools are the bits of an array, one by one.
func bools(b api.Bits) []bool {
	list := make([]bool, b.Length)
	for i := range list {
		list[i] = b.Words[i/64]>>(i%64)%2 == 1
	}
	return list
}

// fromBools is the array of these bits.
func fromBools(list []bool) api.Bits {
	b := api.Bits{Length: len(list), Words: make([]uint64, len(list)/64)}
	for i, set := range list {
		if set {
			b.Words[i/64] += 1 << (i % 64)
		}
	}
	return b
}

// clone returns an array in memory of its own.
func clone(b api.Bits) api.Bits {
	return api.Bits{Length: b.Length, Words: slices.Clone(b.Words)}
}

// equal reports whether two arrays are the same.
func equal(a, b api.Bits) bool { return a.Length == b.Length && slices.Equal(a.Words, b.Words) }

// expectBits checks an array that a function returned with an error; with one other than OK, the array must be zero.
func expectBits(t *testing.T, what string, got api.Bits, e api.Errno, want api.Bits, wantE api.Errno) {
	t.Helper()
	if wantE != api.OK {
		want = api.Bits{}
	}
	if !equal(got, want) || e != wantE {
		t.Errorf("%s is %x, %d, not %x, %d", what, got, e, want, wantE)
	}
}

// expectSame checks that an argument is what it was.
func expectSame(t *testing.T, what string, got, before api.Bits) {
	t.Helper()
	if !equal(got, before) {
		t.Errorf("%s changed %x into %x", what, before, got)
	}
}

// P9.1: exactly the lengths of 64 to 512 that are multiples of 64, with a word for each 64 bits.
func TestValid(t *testing.T) {
	for length := -600; length <= 1200; length++ {
		for words := range 20 {
			want := length >= api.MinBits && length <= api.MaxBits && length%64 == 0 && words*64 == length
			if bitset.Valid(api.Bits{Length: length, Words: ones(words)}) != want {
				t.Errorf("Valid of the Length %d with %d words is not %t", length, words, want)
			}
		}
	}
	for _, b := range invalid() {
		if bitset.Valid(b) {
			t.Errorf("%x is valid", b)
		}
	}
	if bitset.Valid(api.Bits{Length: 64, Words: make([]uint64, 0, 8)}) {
		t.Error("the capacity counts as words")
	}
	for _, length := range lengths {
		for _, b := range samples(length) {
			if !bitset.Valid(b) {
				t.Errorf("%x is not valid", b)
			}
		}
	}
}

// P9.1: the array of a length without bits; ErrRange.
func TestNew(t *testing.T) {
	for length := -1100; length <= 1100; length++ {
		want, wantE := api.Bits{}, api.ErrRange
		if slices.Contains(lengths, length) {
			want, wantE = api.Bits{Length: length, Words: make([]uint64, length/64)}, api.OK
		}
		got, e := bitset.New(length)
		expectBits(t, fmt.Sprint("New of ", length), got, e, want, wantE)
	}
	for _, length := range far {
		got, e := bitset.New(length)
		expectBits(t, fmt.Sprint("New of ", length), got, e, api.Bits{}, api.ErrRange)
	}
	a, _ := bitset.New(128)
	b, _ := bitset.New(128)
	a.Words[0] = 1
	if b.Words[0] != 0 {
		t.Error("two new arrays share their words")
	}
}

// P9.1: each bit of arrays of each length, set before or not.
func TestSet(t *testing.T) {
	for _, length := range lengths {
		for _, b := range samples(length) {
			for i := range length {
				list := bools(b)
				list[i] = true
				expectSet(t, b, i, fromBools(list), api.OK)
			}
		}
	}
}

// expectSet checks an array with one more bit, and that it is new.
func expectSet(t *testing.T, b api.Bits, i int, want api.Bits, wantE api.Errno) {
	t.Helper()
	what, before := fmt.Sprintf("Set of %x and %d", b, i), clone(b)
	got, e := bitset.Set(b, i)
	expectBits(t, what, got, e, want, wantE)
	for j := range got.Words {
		got.Words[j] = ^got.Words[j]
	}
	expectSame(t, what, b, before)
}

// P9.1: an array that is not valid comes before a bit that is none.
func TestSetErrors(t *testing.T) {
	for _, b := range invalid() {
		for _, i := range append([]int{0, 1, 63, 64, b.Length, 511, 512}, far...) {
			expectSet(t, b, i, api.Bits{}, api.ErrLength)
		}
	}
	for _, length := range lengths {
		for _, b := range samples(length) {
			for _, i := range append([]int{length, length + 1, length + 63, length + 64, 512, 2 * length}, far...) {
				expectSet(t, b, i, api.Bits{}, api.ErrRange)
			}
		}
	}
}

// P9.1: bits that are set, that are not, that are none, and bits of arrays that are not valid.
func TestHas(t *testing.T) {
	for _, length := range lengths {
		for _, b := range samples(length) {
			before := clone(b)
			for i, want := range bools(b) {
				if bitset.Has(b, i) != want {
					t.Errorf("Has of %x and %d is not %t", b, i, want)
				}
			}
			for _, i := range append([]int{length, length + 1, length + 64, 2 * length, 512}, far...) {
				if bitset.Has(b, i) {
					t.Errorf("%x has the bit %d", b, i)
				}
			}
			expectSame(t, "Has", b, before)
		}
	}
	for _, b := range invalid() {
		for _, i := range append([]int{0, 1, 63, 64, b.Length - 1, 511, 512}, far...) {
			if bitset.Has(b, i) {
				t.Errorf("%x, which is not valid, has the bit %d", b, i)
			}
		}
	}
}

// P9.1: a bit that is set is the only one that Has then finds in addition.
func TestSetThenHas(t *testing.T) {
	for _, i := range []int{0, 1, 62, 63, 64, 65, 127} {
		b, _ := bitset.New(128)
		b, e := bitset.Set(b, i)
		if e != api.OK || bitset.Count(b) != 1 {
			t.Errorf("Set of %d: %x, %d", i, b, e)
		}
		for j := range 128 {
			if bitset.Has(b, j) != (i == j) {
				t.Errorf("with the bit %d alone, the bit %d is %t", i, j, i != j)
			}
		}
	}
}

// P9.1: counts of no bits, of some and of all; of arrays that are not valid.
func TestCount(t *testing.T) {
	for _, length := range lengths {
		for _, b := range samples(length) {
			before, want := clone(b), 0
			for _, set := range bools(b) {
				if set {
					want++
				}
			}
			if got := bitset.Count(b); got != want {
				t.Errorf("Count of %x is %d, not %d", b, got, want)
			}
			expectSame(t, "Count", b, before)
		}
		empty, _ := bitset.New(length)
		if n, all := bitset.Count(empty), bitset.Count(full(length)); n != 0 || all != length {
			t.Errorf("counts of no bits and of all %d: %d and %d", length, n, all)
		}
	}
	for _, b := range invalid() {
		if n := bitset.Count(b); n != 0 {
			t.Errorf("Count of %x, which is not valid, is %d", b, n)
		}
	}
}

// operation is a function that combines two arrays, and what it does with two bits.
type operation struct {
	name    string
	combine func(a, b api.Bits) (api.Bits, api.Errno)
	bit     func(x, y bool) bool
}

// operations are And, Or and Xor.
var operations = []operation{
	{"And", bitset.And, func(x, y bool) bool { return x && y }},
	{"Or", bitset.Or, func(x, y bool) bool { return x || y }},
	{"Xor", bitset.Xor, func(x, y bool) bool { return x != y }},
}

// expectCombined checks the result of an operation, and that it is new.
func expectCombined(t *testing.T, o operation, a, b, want api.Bits, wantE api.Errno) {
	t.Helper()
	what, beforeA, beforeB := fmt.Sprintf("%s of %x and %x", o.name, a, b), clone(a), clone(b)
	got, e := o.combine(a, b)
	expectBits(t, what, got, e, want, wantE)
	for j := range got.Words {
		got.Words[j] = ^got.Words[j]
	}
	expectSame(t, what, a, beforeA)
	expectSame(t, what, b, beforeB)
}

// P9.2: bit by bit; an array with itself, too.
func TestCombine(t *testing.T) {
	for _, o := range operations {
		for _, length := range lengths {
			for _, a := range samples(length) {
				for _, b := range samples(length) {
					list := bools(a)
					for i, set := range bools(b) {
						list[i] = o.bit(list[i], set)
					}
					expectCombined(t, o, a, b, fromBools(list), api.OK)
				}
				want := clone(a)
				if o.name == "Xor" {
					want, _ = bitset.New(length)
				}
				expectCombined(t, o, a, a, want, api.OK)
			}
		}
	}
}

// P9.2: arrays that are not valid, and arrays of different lengths.
func TestCombineErrors(t *testing.T) {
	for _, o := range operations {
		for _, a := range invalid() {
			expectCombined(t, o, a, a, api.Bits{}, api.ErrLength)
			for _, length := range lengths {
				expectCombined(t, o, a, full(length), api.Bits{}, api.ErrLength)
				expectCombined(t, o, full(length), a, api.Bits{}, api.ErrLength)
			}
		}
		for _, m := range lengths {
			for _, n := range lengths {
				if m != n {
					expectCombined(t, o, full(m), full(n), api.Bits{}, api.ErrLength)
				}
			}
		}
		// One Length alone, or one number of words alone, does not make two arrays fit.
		expectCombined(t, o, api.Bits{Length: 64}, api.Bits{Length: 64, Words: []uint64{1}}, api.Bits{}, api.ErrLength)
		expectCombined(t, o, api.Bits{Length: 64, Words: []uint64{1}}, api.Bits{Length: 64, Words: []uint64{1, 2}}, api.Bits{}, api.ErrLength)
		expectCombined(t, o, api.Bits{Length: 128, Words: []uint64{1}}, api.Bits{Length: 64, Words: []uint64{1}}, api.Bits{}, api.ErrLength)
	}
}

// Consequence of P9.1 and P9.2: Count of And plus Count of Or is the sum of both Counts; Xor is Or without And.
func TestCountsOfCombinations(t *testing.T) {
	for _, length := range lengths {
		for _, a := range samples(length) {
			for _, b := range samples(length) {
				both, _ := bitset.And(a, b)
				one, _ := bitset.Or(a, b)
				differ, _ := bitset.Xor(a, b)
				if bitset.Count(both)+bitset.Count(one) != bitset.Count(a)+bitset.Count(b) || bitset.Count(differ) != bitset.Count(one)-bitset.Count(both) {
					t.Errorf("the counts of %x and %x", a, b)
				}
			}
		}
	}
}

// expectFold checks a folded array, and that it is new.
func expectFold(t *testing.T, b, want api.Bits, wantE api.Errno) {
	t.Helper()
	what, before := fmt.Sprintf("Fold of %x", b), clone(b)
	got, e := bitset.Fold(b)
	expectBits(t, what, got, e, want, wantE)
	for j := range got.Words {
		got.Words[j] = ^got.Words[j]
	}
	expectSame(t, what, b, before)
}

// P9.2: the exclusive or of both halves; only of a Length that is a multiple of 128.
func TestFold(t *testing.T) {
	expectFold(t, api.Bits{Length: 128, Words: []uint64{0xff, 0x0f}}, api.Bits{Length: 64, Words: []uint64{0xf0}}, api.OK)
	expectFold(t, api.Bits{Length: 256, Words: []uint64{1, 2, 4, 8}}, api.Bits{Length: 128, Words: []uint64{5, 10}}, api.OK)
	expectFold(t, api.Bits{Length: 384, Words: []uint64{1, 2, 4, 8, 16, 32}}, api.Bits{Length: 192, Words: []uint64{9, 18, 36}}, api.OK)
	for _, length := range lengths {
		for _, b := range samples(length) {
			if length%128 != 0 {
				expectFold(t, b, api.Bits{}, api.ErrRange)
				continue
			}
			list := bools(b)
			half := list[:length/2]
			for i := range half {
				half[i] = list[i] != list[length/2+i]
			}
			expectFold(t, b, fromBools(half), api.OK)
		}
	}
	for _, b := range invalid() {
		expectFold(t, b, api.Bits{}, api.ErrLength)
	}
}

// P9.2: folded again and again, an array becomes the exclusive or of all its words.
func TestFoldTwice(t *testing.T) {
	b := mixed(512, 9)
	once, _ := bitset.Fold(b)
	twice, _ := bitset.Fold(once)
	last, e := bitset.Fold(twice)
	want := uint64(0)
	for _, w := range b.Words {
		want ^= w
	}
	expectBits(t, "the array folded three times", last, e, api.Bits{Length: 64, Words: []uint64{want}}, api.OK)
	_, e = bitset.Fold(last)
	if e != api.ErrRange {
		t.Errorf("Fold of 64 bits: %d", e)
	}
}

// expectCompare checks a comparison in both directions.
func expectCompare(t *testing.T, a, b api.Bits, want int) {
	t.Helper()
	beforeA, beforeB := clone(a), clone(b)
	if got := bitset.Compare(a, b); got != want {
		t.Errorf("Compare of %x and %x is %d, not %d", a, b, got, want)
	}
	if got := bitset.Compare(b, a); got != -want {
		t.Errorf("Compare of %x and %x is %d, not %d", b, a, got, -want)
	}
	expectSame(t, "Compare", a, beforeA)
	expectSame(t, "Compare", b, beforeB)
}

// P9.2: by Length, then by the number of Words, then by the Words, the first one first.
func TestCompare(t *testing.T) {
	rows := []struct {
		a, b api.Bits
		want int
	}{
		{api.Bits{}, api.Bits{}, 0},
		{api.Bits{}, api.Bits{Words: []uint64{}}, 0},
		{api.Bits{Length: 64, Words: []uint64{5}}, api.Bits{Length: 64, Words: []uint64{5}}, 0},
		{api.Bits{Length: 64, Words: []uint64{9}}, api.Bits{Length: 128, Words: []uint64{1, 1}}, -1},
		{api.Bits{Length: 128, Words: []uint64{9, 9}}, api.Bits{Length: 192, Words: []uint64{1, 1, 1}}, -1},
		{api.Bits{Length: 64, Words: []uint64{9, 9, 9}}, api.Bits{Length: 65, Words: []uint64{1}}, -1},
		{api.Bits{Length: 64, Words: []uint64{9}}, api.Bits{Length: 64, Words: []uint64{1, 1}}, -1},
		{api.Bits{Length: 64}, api.Bits{Length: 64, Words: []uint64{0}}, -1},
		{api.Bits{Length: 128, Words: []uint64{9}}, api.Bits{Length: 128, Words: []uint64{0, 0}}, -1},
		{api.Bits{Length: 128, Words: []uint64{1, 9}}, api.Bits{Length: 128, Words: []uint64{2, 0}}, -1},
		{api.Bits{Length: 128, Words: []uint64{7, 1}}, api.Bits{Length: 128, Words: []uint64{7, 2}}, -1},
		{api.Bits{Length: 192, Words: []uint64{7, 1, 9}}, api.Bits{Length: 192, Words: []uint64{7, 2, 0}}, -1},
		{api.Bits{Length: 64, Words: []uint64{math.MaxInt64}}, api.Bits{Length: 64, Words: []uint64{1 << 63}}, -1},
		{api.Bits{Length: 64, Words: []uint64{0}}, api.Bits{Length: 64, Words: []uint64{math.MaxUint64}}, -1},
		{api.Bits{Length: 64, Words: []uint64{1<<63 - 1}}, api.Bits{Length: 64, Words: []uint64{1<<63 + 1}}, -1},
		{api.Bits{Length: -1, Words: []uint64{9}}, api.Bits{Words: []uint64{1}}, -1},
		{api.Bits{Length: math.MinInt}, api.Bits{Length: math.MaxInt}, -1},
		{api.Bits{Length: math.MinInt, Words: ones(20)}, api.Bits{Length: -1}, -1},
		{api.Bits{Length: math.MaxInt, Words: ones(9)}, api.Bits{Length: math.MaxInt, Words: ones(10)}, -1},
		{api.Bits{Length: 3, Words: []uint64{1, 2, 3}}, api.Bits{Length: 3, Words: []uint64{1, 2, 3}}, 0},
	}
	for _, r := range rows {
		expectCompare(t, r.a, r.b, r.want)
	}
	for _, length := range lengths {
		for i := range length {
			a := mixed(length, uint64(i))
			a.Words[i/64] &^= 1 << (i % 64)
			b := clone(a)
			expectCompare(t, a, b, 0)
			b.Words[i/64] |= 1 << (i % 64)
			expectCompare(t, a, b, -1)
		}
	}
}

// P9.2: numbers of words that fit one Length, in front of the words themselves.
func TestCompareOrders(t *testing.T) {
	var ascending []api.Bits
	for _, length := range []int{math.MinInt, -64, 0, 32, 64, 65, 512, math.MaxInt} {
		for words := range 4 {
			zeros := make([]uint64, words)
			ascending = append(ascending, api.Bits{Length: length, Words: zeros})
			for i := words - 1; i >= 0; i-- {
				one := make([]uint64, words)
				one[i] = 1
				ascending = append(ascending, api.Bits{Length: length, Words: one})
			}
			if words > 0 {
				ascending = append(ascending, api.Bits{Length: length, Words: ones(words)})
			}
		}
	}
	for i, a := range ascending {
		for _, b := range ascending[i+1:] {
			expectCompare(t, a, b, -1)
		}
		expectCompare(t, a, clone(a), 0)
	}
}

// P9.3: the example.
func TestHexExample(t *testing.T) {
	b, _ := bitset.New(64)
	b, _ = bitset.Set(b, 0)
	b, _ = bitset.Set(b, 63)
	if s, e := bitset.Hex(b); s != "8000000000000001" || e != api.OK {
		t.Errorf("the text of the example is %q, %d", s, e)
	}
}

// P9.3: sixteen digits for each word, zeros in front too, the first word first.
func TestHex(t *testing.T) {
	words := []uint64{0, 1, 0xabcdef, 0x0123456789abcdef, 0xfedcba9876543210, math.MaxUint64, 1 << 60, 0x00ff000000000000}
	want := "0000000000000000" + "0000000000000001" + "0000000000abcdef" + "0123456789abcdef" + "fedcba9876543210" + "ffffffffffffffff" + "1000000000000000" + "00ff000000000000"
	for n := 1; n <= len(words); n++ {
		b := api.Bits{Length: 64 * n, Words: words[:n]}
		if s, e := bitset.Hex(b); s != want[:16*n] || e != api.OK {
			t.Errorf("Hex of %x is %q, %d", b, s, e)
		}
		b = api.Bits{Length: 64 * n, Words: words[8-n:]}
		if s, e := bitset.Hex(b); s != want[16*(8-n):] || e != api.OK {
			t.Errorf("Hex of %x is %q, %d", b, s, e)
		}
	}
	for _, length := range lengths {
		for _, b := range samples(length) {
			before, text := clone(b), ""
			for _, w := range b.Words {
				text += fmt.Sprintf("%016x", w)
			}
			if s, e := bitset.Hex(b); s != text || e != api.OK {
				t.Errorf("Hex of %x is %q, %d", b, s, e)
			}
			expectSame(t, "Hex", b, before)
		}
	}
	for _, b := range invalid() {
		if s, e := bitset.Hex(b); s != "" || e != api.ErrLength {
			t.Errorf("Hex of %x, which is not valid, is %q, %d", b, s, e)
		}
	}
}

// P9.3: Parse of Hex is the array, whatever its length.
func TestParse(t *testing.T) {
	for _, length := range lengths {
		for _, b := range samples(length) {
			s, _ := bitset.Hex(b)
			got, e := bitset.Parse(s)
			expectBits(t, "Parse of "+s, got, e, b, api.OK)
			number, _ := new(big.Int).SetString(s, 16)
			for i := range length {
				// The first word is the first one in the text, so that it is the highest one of the number.
				place := length - 64 - i/64*64 + i%64
				if bitset.Has(got, i) != (number.Bit(place) == 1) {
					t.Errorf("the bit %d of Parse of %q", i, s)
				}
			}
		}
	}
}

// P9.3: texts of all lengths; only those of an array are read.
func TestParseLengths(t *testing.T) {
	for n := range 2000 {
		s := strings.Repeat("6", n)
		want, wantE := api.Bits{}, api.ErrSyntax
		if slices.Contains(lengths, 4*n) {
			want, wantE = api.Bits{Length: 4 * n, Words: make([]uint64, n/16)}, api.OK
			for i := range want.Words {
				want.Words[i] = 0x6666666666666666
			}
		}
		got, e := bitset.Parse(s)
		expectBits(t, fmt.Sprint("Parse of digits, ", n), got, e, want, wantE)
	}
	got, e := bitset.Parse(strings.Repeat("0", 1<<20))
	expectBits(t, "Parse of a million digits", got, e, api.Bits{}, api.ErrSyntax)
}

// P9.3: each byte at each place.
func TestParseBytes(t *testing.T) {
	for _, length := range lengths {
		base, _ := bitset.Hex(mixed(length, 3))
		for i := range base {
			for c := range 256 {
				text := base[:i] + string([]byte{byte(c)}) + base[i+1:]
				got, e := bitset.Parse(text)
				if !strings.ContainsRune("0123456789abcdef", rune(c)) {
					expectBits(t, fmt.Sprintf("Parse of %q", text), got, e, api.Bits{}, api.ErrSyntax)
					continue
				}
				if s, _ := bitset.Hex(got); s != text || e != api.OK {
					t.Errorf("Parse of %q is %x, %d", text, got, e)
				}
			}
		}
	}
}

// P9.3: texts that other readers of numbers take.
func TestParseOtherForms(t *testing.T) {
	for _, s := range []string{
		"", "0", "8000000000000001 ", " 8000000000000001", "800000000000001", "80000000000000001",
		"0x80000000000001", "+800000000000001", "-800000000000001", "8000_0000_000001", "800000000000000A", "ABCDEFABCDEFABCD",
		"８00000000000001", "8000000000000001\n", "8000000000000001,8000000000000001", "80000000000000018000000000000001g", "8000000000000001800000000000000",
	} {
		got, e := bitset.Parse(s)
		expectBits(t, fmt.Sprintf("Parse of %q", s), got, e, api.Bits{}, api.ErrSyntax)
	}
	a, _ := bitset.Parse("8000000000000001")
	b, _ := bitset.Parse("8000000000000001")
	a.Words[0] = 0
	if b.Words[0] != 1<<63+1 {
		t.Error("two arrays read from one text share their words")
	}
}
