package siphash_test

import (
	"math"
	"slices"
	"strings"
	"testing"

	"recordlink/api"
	"recordlink/siphash"
)

// The keys of the tests; the hashes written out below were computed by another program, OpenSSL.
var (
	example = api.Key{A: 0x0706050403020100, B: 0x0f0e0d0c0b0a0908}
	zeros   = api.Key{}
	ones    = api.Key{A: math.MaxUint64, B: math.MaxUint64}
	first   = api.Key{A: 1<<63 + 1}
	second  = api.Key{B: 1<<63 + 1}
)

// keys are all of them.
var keys = []api.Key{example, zeros, ones, first, second}

// counted returns the bytes 0, 1 and so on, and again 0 after 255.
func counted(n int) []byte {
	b := make([]byte, n)
	for i := range b {
		b[i] = byte(i)
	}
	return b
}

// rotate rotates a number to the left.
func rotate(x uint64, n int) uint64 { return x<<n | x>>(64-n) }

// rounds carries out rounds as the chapter defines them.
func rounds(n int, a, b, c, d uint64) (uint64, uint64, uint64, uint64) {
	for range n {
		a += b
		b = rotate(b, 13) ^ a
		a = rotate(a, 32)
		c += d
		d = rotate(d, 16) ^ c
		a += d
		d = rotate(d, 21) ^ a
		c += b
		b = rotate(b, 17) ^ c
		c = rotate(c, 32)
	}
	return a, b, c, d
}

// plain is the hash as the chapter defines it: of the bytes with zeros and their number behind them.
func plain(k api.Key, bytes []byte) uint64 {
	padded := append(slices.Clone(bytes), make([]byte, 7-len(bytes)%8)...)
	padded = append(padded, byte(len(bytes)%256))
	a, b, c, d := k.A^0x736f6d6570736575, k.B^0x646f72616e646f6d, k.A^0x6c7967656e657261, k.B^0x7465646279746573
	for i := 0; i < len(padded); i += 8 {
		m := uint64(0)
		for j := 7; j >= 0; j-- {
			m = m*256 + uint64(padded[i+j])
		}
		a, b, c, d = rounds(2, a, b, c, d^m)
		a ^= m
	}
	a, b, c, d = rounds(4, a, b, c^0xff, d)
	return a ^ b ^ c ^ d
}

// expectSum checks a hash of bytes.
func expectSum(t *testing.T, k api.Key, b []byte, want uint64) {
	t.Helper()
	if got := siphash.Sum(k, b); got != want {
		t.Errorf("Sum(%x, %d bytes %x) is %#x, not %#x", k, len(b), b[:min(len(b), 24)], got, want)
	}
}

// expectPlain checks that a hash is the one that the chapter defines.
func expectPlain(t *testing.T, k api.Key, b []byte) {
	t.Helper()
	expectSum(t, k, b, plain(k, b))
}

// joined is the concatenation of parts of at most 65535 bytes, each with its length in front.
func joined(parts []string) []byte {
	var b []byte
	for _, part := range parts {
		b = append(b, byte(len(part)/256), byte(len(part)%256))
		b = append(b, part...)
	}
	return b
}

// expectParts checks a hash of parts.
func expectParts(t *testing.T, k api.Key, want uint64, parts ...string) {
	t.Helper()
	if got := siphash.Parts(k, parts...); got != want {
		t.Errorf("Parts(%x, %d parts %.40q) is %#x, not %#x", k, len(parts), parts, got, want)
	}
}

// expectJoined checks that a hash of parts of at most 65535 bytes is that of their concatenation.
func expectJoined(t *testing.T, parts ...string) {
	t.Helper()
	for _, k := range keys {
		expectParts(t, k, plain(k, joined(parts)), parts...)
	}
}

// expectDerive checks a derived key.
func expectDerive(t *testing.T, k api.Key, label string, a, b uint64) {
	t.Helper()
	if got := siphash.Derive(k, label); got != (api.Key{A: a, B: b}) {
		t.Errorf("Derive(%x, %.40q) is %x, not %x, %x", k, label, got, a, b)
	}
}

// expectDifferent checks that no hash occurs twice.
func expectDifferent(t *testing.T, hashes []uint64) {
	t.Helper()
	slices.Sort(hashes)
	if n := len(slices.Compact(slices.Clone(hashes))); n != len(hashes) {
		t.Errorf("of %d hashes, %d are different", len(hashes), n)
	}
}

// P8.1: the two hashes of the chapter.
func TestSumOfExample(t *testing.T) {
	expectSum(t, example, counted(15), 0xa129ca6149be45e5)
	expectSum(t, example, []byte{}, 0x726fdb47dd0e0e31)
	expectSum(t, example, nil, 0x726fdb47dd0e0e31)
}

// P8.1: every length from no byte to 63.
func TestSumOfShort(t *testing.T) {
	want := []uint64{
		0x726fdb47dd0e0e31, 0x74f839c593dc67fd, 0x0d6c8009d9a94f5a, 0x85676696d7fb7e2d,
		0xcf2794e0277187b7, 0x18765564cd99a68d, 0xcbc9466e58fee3ce, 0xab0200f58b01d137,
		0x93f5f5799a932462, 0x9e0082df0ba9e4b0, 0x7a5dbbc594ddb9f3, 0xf4b32f46226bada7,
		0x751e8fbc860ee5fb, 0x14ea5627c0843d90, 0xf723ca908e7af2ee, 0xa129ca6149be45e5,
		0x3f2acc7f57c29bdb, 0x699ae9f52cbe4794, 0x4bc1b3f0968dd39c, 0xbb6dc91da77961bd,
		0xbed65cf21aa2ee98, 0xd0f2cbb02e3b67c7, 0x93536795e3a33e88, 0xa80c038ccd5ccec8,
		0xb8ad50c6f649af94, 0xbce192de8a85b8ea, 0x17d835b85bbb15f3, 0x2f2e6163076bcfad,
		0xde4daaaca71dc9a5, 0xa6a2506687956571, 0xad87a3535c49ef28, 0x32d892fad841c342,
		0x7127512f72f27cce, 0xa7f32346f95978e3, 0x12e0b01abb051238, 0x15e034d40fa197ae,
		0x314dffbe0815a3b4, 0x027990f029623981, 0xcadcd4e59ef40c4d, 0x9abfd8766a33735c,
		0x0e3ea96b5304a7d0, 0xad0c42d6fc585992, 0x187306c89bc215a9, 0xd4a60abcf3792b95,
		0xf935451de4f21df2, 0xa9538f0419755787, 0xdb9acddff56ca510, 0xd06c98cd5c0975eb,
		0xe612a3cb9ecba951, 0xc766e62cfcadaf96, 0xee64435a9752fe72, 0xa192d576b245165a,
		0x0a8787bf8ecb74b2, 0x81b3e73d20b49b6f, 0x7fa8220ba3b2ecea, 0x245731c13ca42499,
		0xb78dbfaf3a8d83bd, 0xea1ad565322a1a0b, 0x60e61c23a3795013, 0x6606d7e446282b93,
		0x6ca4ecb15c5f91e1, 0x9f626da15c9625f3, 0xe51b38608ef25f57, 0x958a324ceb064572,
	}
	for n, hash := range want {
		expectSum(t, example, counted(n), hash)
	}
}

// P8.1: the number of bytes counts modulo 256.
func TestSumOfLong(t *testing.T) {
	for _, c := range []struct {
		n    int
		want uint64
	}{
		{254, 0x3675e5b469beb11f},
		{255, 0xa9c169fec74db21a},
		{256, 0x999d0526d2a7bfd7},
		{257, 0x8a817b8d55b29748},
		{263, 0x86d801b865760792},
		{264, 0xe76e0db3fa0ee85c},
		{511, 0x969303d05e5af242},
		{512, 0x883b57c3e55ada0e},
		{513, 0x90b6017f2031622b},
		{65535, 0xbc3ff5a47b55a468},
		{65536, 0x8198936ae10d9342},
		{65537, 0x4347963264d2a668},
	} {
		expectSum(t, example, counted(c.n), c.want)
	}
}

// P8.1: keys whose bits are all 0 or all 1, and both halves of a key.
func TestSumOfKeys(t *testing.T) {
	for _, c := range []struct {
		k    api.Key
		n    int
		want uint64
	}{
		{zeros, 0, 0x1e924b9d737700d7},
		{zeros, 1, 0x8b5a0baa49fbc58d},
		{zeros, 7, 0xb3d67eaf2c11480b},
		{zeros, 8, 0xc72b1c24fc2f7938},
		{zeros, 9, 0x610e7ab6ada60b22},
		{zeros, 15, 0xd0567cd44e891363},
		{zeros, 16, 0xc902632ed88f897f},
		{zeros, 40, 0xa43827a530b08989},
		{ones, 0, 0x35dd279ee86ce565},
		{ones, 1, 0x63e8f5ae8073d111},
		{ones, 7, 0x9c578eb991de4929},
		{ones, 8, 0x60102fcb8d4d6ae7},
		{ones, 9, 0x6f799eb47471146e},
		{ones, 15, 0x2a7ff92db91c083e},
		{ones, 16, 0x4f62b6cf3e7c6105},
		{ones, 40, 0xe312a63c89363f38},
		{first, 0, 0x9a88e8fa6869c196},
		{first, 1, 0x419f4f0641046af6},
		{first, 7, 0xec7b2c43aacae841},
		{first, 8, 0x6866155770946c89},
		{first, 9, 0x91061322b0591f0f},
		{first, 15, 0x2b1ad4752fe2d248},
		{first, 16, 0xd33c8a47dc2680cd},
		{first, 40, 0x27dc66d8da29889a},
		{second, 0, 0x59ee4842b10eb0e4},
		{second, 1, 0x5ccc15f18739c73b},
		{second, 7, 0x6e7dce88a361f119},
		{second, 8, 0xf2a88a93ec603cf5},
		{second, 9, 0x898571fd32c4f290},
		{second, 15, 0xe163bc48e7617704},
		{second, 16, 0x078c18be59d35a85},
		{second, 40, 0x4c7094a3748d4fd0},
	} {
		expectSum(t, c.k, counted(c.n), c.want)
	}
}

// P8.1: zeros at the end and bytes with all bits.
func TestSumOfSame(t *testing.T) {
	for _, c := range []struct {
		n    int
		b    byte
		want uint64
	}{
		{1, 0x00, 0x74f839c593dc67fd},
		{1, 0xff, 0xcad12f7b27ddb802},
		{7, 0x00, 0xaab82dae3354313a},
		{7, 0xff, 0x00ac323c9a55b1dc},
		{8, 0x00, 0x39d3851ca07681a7},
		{8, 0xff, 0x2a68ff30a3d9da34},
		{9, 0x00, 0x4876b84f02298863},
		{9, 0xff, 0x30f4333b0ba8a712},
		{16, 0x00, 0x98a0d3c0ef557701},
		{16, 0xff, 0xa06ef3ea6d6b622e},
	} {
		expectSum(t, example, slices.Repeat([]byte{c.b}, c.n), c.want)
	}
}

// P8.1: every length, with every key, as the chapter defines it.
func TestSumOfEveryLength(t *testing.T) {
	for _, k := range keys {
		var hashes []uint64
		for n := range 600 {
			expectPlain(t, k, counted(n))
			expectPlain(t, k, make([]byte, n))
			hashes = append(hashes, siphash.Sum(k, make([]byte, n)))
		}
		expectDifferent(t, hashes)
	}
}

// P8.1: every byte at every place of two groups and of what remains.
func TestSumOfEveryByte(t *testing.T) {
	for place := range 23 {
		var hashes []uint64
		for c := range 256 {
			b := counted(23)
			b[place] = byte(c)
			expectPlain(t, example, b)
			hashes = append(hashes, siphash.Sum(example, b))
		}
		expectDifferent(t, hashes)
	}
}

// P8.1: every bit of a key counts.
func TestSumOfEveryKeyBit(t *testing.T) {
	var hashes []uint64
	for i := range 64 {
		for _, k := range []api.Key{{A: 1 << i}, {B: 1 << i}} {
			expectPlain(t, k, counted(11))
			hashes = append(hashes, siphash.Sum(k, counted(11)))
		}
	}
	expectDifferent(t, hashes)
}

// P8.1: neither bytes that are hashed nor those behind them are changed, and they alone count.
func TestSumKeepsBytes(t *testing.T) {
	for n := range 20 {
		whole := counted(40)
		expectPlain(t, example, whole[3:3+n])
		expectPlain(t, example, whole[3:3+n:3+n])
		if !slices.Equal(whole, counted(40)) {
			t.Errorf("after Sum of %d bytes they are %x", n, whole)
		}
	}
}

// P8.2: hashes of parts, written out.
func TestPartsOfFew(t *testing.T) {
	for _, c := range []struct {
		k     api.Key
		parts []string
		want  uint64
	}{
		{example, nil, 0x726fdb47dd0e0e31},
		{example, []string{""}, 0x512233290cc28bde},
		{example, []string{"", ""}, 0xeff099d7f6039771},
		{example, []string{"ab", "c"}, 0xf15bfc88d118aac1},
		{example, []string{"a", "bc"}, 0x91d1d179b94b0bd1},
		{example, []string{"abc"}, 0x5b15224384bae3a3},
		{example, []string{"abc", ""}, 0x90f36c6d76d4dc2b},
		{example, []string{"", "abc"}, 0x4cd9f24a4d9bc402},
		{zeros, nil, 0x1e924b9d737700d7},
		{zeros, []string{""}, 0x3a6d9523170345d0},
		{zeros, []string{"", ""}, 0x7bf55e51b22b9698},
		{zeros, []string{"ab", "c"}, 0x18c29f89d37c362d},
		{zeros, []string{"a", "bc"}, 0xba72ee63ddc0d7e0},
		{zeros, []string{"abc"}, 0xb32a861b7d6fd452},
		{zeros, []string{"abc", ""}, 0xe552c17e570e871f},
		{zeros, []string{"", "abc"}, 0xfa26bdbeb6343dd2},
		{ones, nil, 0x35dd279ee86ce565},
		{ones, []string{""}, 0x3af24a6ce0cf9afc},
		{ones, []string{"", ""}, 0x824eb767a65b7d3f},
		{ones, []string{"ab", "c"}, 0x846d9219d007b4da},
		{ones, []string{"a", "bc"}, 0x34451685e1512da7},
		{ones, []string{"abc"}, 0x1252b8c1542f82bd},
		{ones, []string{"abc", ""}, 0xe698a3f91779540f},
		{ones, []string{"", "abc"}, 0x28e28e96fcc95771},
	} {
		expectParts(t, c.k, c.want, c.parts...)
	}
}

// P8.2: no part, given as no argument, as nil and as an empty list.
func TestPartsOfNone(t *testing.T) {
	for _, k := range keys {
		want := siphash.Sum(k, nil)
		expectParts(t, k, want)
		expectParts(t, k, want, []string(nil)...)
		expectParts(t, k, want, []string{}...)
	}
}

// P8.2: lists of parts that have the same bytes in other divisions are hashed differently.
func TestPartsOfDivisions(t *testing.T) {
	lists := [][]string{
		{}, {""}, {"", ""}, {"", "", ""}, {"abc"}, {"", "abc"}, {"abc", ""}, {"", "abc", ""}, {"abc", "", ""},
		{"a", "bc"}, {"ab", "c"}, {"a", "b", "c"}, {"a", "", "bc"}, {"c", "ab"}, {"bc", "a"}, {"cab"},
		{"\x00"}, {"\x00\x00"}, {"\x00", "\x00"}, {"\x00\x03abc"}, {"\x00\x01a\x00\x02bc"}, {"a\x00\x02bc"},
	}
	for _, k := range keys {
		var hashes []uint64
		for _, parts := range lists {
			hashes = append(hashes, siphash.Parts(k, parts...))
		}
		expectDifferent(t, hashes)
	}
	for _, parts := range lists {
		expectJoined(t, parts...)
	}
}

// P8.2: parts of every length up to some hundreds, and of each number of parts up to some.
func TestPartsOfLengths(t *testing.T) {
	for n := range 600 {
		expectJoined(t, string(counted(n)), "x")
	}
	var parts []string
	for n := range 40 {
		expectJoined(t, parts...)
		parts = append(parts, string(counted(n*n%53)))
	}
}

// P8.2: every byte in a part.
func TestPartsOfEveryByte(t *testing.T) {
	for c := range 256 {
		b := string([]byte{byte(c)})
		expectJoined(t, b)
		expectJoined(t, "a", "b"+b, b)
	}
}

// P8.2: the length is two bytes, the higher one first; a part of more than 65535 bytes is cut.
func TestPartsOfLong(t *testing.T) {
	for _, c := range []struct {
		n    int
		want uint64
	}{
		{255, 0x93903089a98c19b4},
		{256, 0xd96812ab05f2b5a6},
		{257, 0x43b2c373c4e2c512},
		{65279, 0x5f57368c45518705},
		{65280, 0xe3f93cca81de557d},
		{65534, 0xfe6732e2584d2909},
		{65535, 0x8b964c7a58b787b5},
		{65536, 0x8b964c7a58b787b5},
		{65537, 0x8b964c7a58b787b5},
		{65539, 0x8b964c7a58b787b5},
		{131071, 0x8b964c7a58b787b5},
		{131072, 0x8b964c7a58b787b5},
		{200000, 0x8b964c7a58b787b5},
	} {
		expectParts(t, example, c.want, string(counted(c.n)), "x")
	}
	most := strings.Repeat("y", 65535)
	expectJoined(t, most)
	expectJoined(t, "a", most, most)
	for _, k := range keys {
		want := plain(k, joined([]string{"a", most, most, "b"}))
		expectParts(t, k, want, "a", most+"z", most+most, "b")
	}
}

// P8.2: a list of parts is not changed.
func TestPartsKeepsList(t *testing.T) {
	long := strings.Repeat("y", 65536)
	parts := []string{"a", long, "b", "spare"}
	siphash.Parts(example, parts[:3]...)
	if !slices.Equal(parts, []string{"a", long, "b", "spare"}) {
		t.Errorf("Parts changes its list")
	}
}

// P8.2: derived keys, written out.
func TestDerive(t *testing.T) {
	for _, c := range []struct {
		k     api.Key
		label string
		a, b  uint64
	}{
		{example, "", 0x0ece07c6130cb118, 0x472d16514a787360},
		{example, "a", 0x8d6b762d9ffd5e58, 0xed535b4f7b98d2b2},
		{example, "b", 0xa672420ac8ffc67c, 0xa9a5b32d6e738d16},
		{example, "name", 0x552ade0eadcbfed0, 0x992d213fef3746f0},
		{zeros, "", 0x1288caf3312d7160, 0xd229e727391a31b5},
		{zeros, "a", 0xb0b1ec54fcb65824, 0xdfeac49c012e14da},
		{zeros, "b", 0x458d7440a7c23476, 0x371263ccd034d138},
		{zeros, "name", 0x94377e6661af3953, 0xa87d4518fe3a9b47},
		{ones, "", 0xf8d0f76467651541, 0x9ccc19a3ac76a8de},
		{ones, "a", 0x37aba18ca2b5a382, 0xfaa8dd68b05aacba},
		{ones, "b", 0xb614beb81259c32a, 0xe1ca38fb6d4353fa},
		{ones, "name", 0xe5cb62e5a14b7c3c, 0xfcf3767065709159},
	} {
		expectDerive(t, c.k, c.label, c.a, c.b)
	}
	expectDerive(t, example, string(counted(65535)), 0x73100716284a2818, 0x4a4252284151043f)
	expectDerive(t, example, string(counted(65536)), 0x73100716284a2818, 0x4a4252284151043f)
}

// P8.2: derived keys are the hashes of two lists of parts, and differ with the label and the key.
func TestDeriveOfLabels(t *testing.T) {
	var hashes []uint64
	for _, k := range keys {
		for _, label := range []string{"", "a", "b", "aa", "ab", "name", "name ", "\x00", "\xff"} {
			a, b := plain(k, joined([]string{label, "a"})), plain(k, joined([]string{label, "b"}))
			expectDerive(t, k, label, a, b)
			hashes = append(hashes, a, b)
		}
	}
	expectDifferent(t, hashes)
}

// P8.1, P8.2: equal arguments have equal hashes, whatever was hashed before.
func TestSameAgain(t *testing.T) {
	sum, parts, key := siphash.Sum(ones, counted(9)), siphash.Parts(ones, "a", "b"), siphash.Derive(ones, "a")
	for range 3 {
		siphash.Sum(zeros, counted(100))
		expectSum(t, ones, counted(9), sum)
		expectParts(t, ones, parts, "a", "b")
		expectDerive(t, ones, "a", key.A, key.B)
	}
}
