package gram_test

import (
	"slices"
	"strconv"
	"strings"
	"testing"

	"recordlink/api"
	"recordlink/gram"
)

// one returns the text of one byte.
func one(c int) string { return string([]byte{byte(c)}) }

// numbers returns a list of different texts, by their numbers; of those below 900, it is ascending.
func numbers(from, to int) []string {
	var list []string
	for i := from; i < to; i++ {
		list = append(list, strconv.Itoa(100+i))
	}
	return list
}

// strictly reports whether a list is ascending, each element once.
func strictly(list []string) bool {
	for i := 1; i < len(list); i++ {
		if list[i-1] >= list[i] {
			return false
		}
	}
	return true
}

// expectGrams checks the grams of a text, and that they are ascending, and new with each call.
func expectGrams(t *testing.T, s string, want ...string) {
	t.Helper()
	expectFresh(t, "Grams", gram.Grams, s, want)
}

// expectPositional checks the grams with positions of a text, and that they are ascending, and new with each call.
func expectPositional(t *testing.T, s string, want ...string) {
	t.Helper()
	expectFresh(t, "Positional", gram.Positional, s, want)
}

// expectFresh checks what a function returns of a text, also after its result has been written over.
func expectFresh(t *testing.T, called string, f func(string) []string, s string, want []string) {
	t.Helper()
	for range 2 {
		got := f(s)
		if !slices.Equal(got, want) {
			t.Errorf("%s(%q) is %q, not %q", called, s, got, want)
		}
		if !strictly(got) {
			t.Errorf("%s(%q) is %q: not ascending", called, s, got)
		}
		for i := range got {
			got[i] = "changed"
		}
	}
}

// P5.1: the examples of the document.
func TestGramsExamples(t *testing.T) {
	expectGrams(t, "ann", "_a", "an", "n_", "nn")
	expectGrams(t, "an", "_a", "an", "n_")
	expectGrams(t, "robert", "_r", "be", "er", "ob", "ro", "rt", "t_")
}

// P5.1: a token of one byte has two grams.
func TestGramsOfOneByte(t *testing.T) {
	expectGrams(t, "a", "_a", "a_")
	expectGrams(t, "7", "7_", "_7")
	expectGrams(t, "a b", "_a", "_b", "a_", "b_")
	expectGrams(t, "b a", "_a", "_b", "a_", "b_")
	expectGrams(t, "a a", "_a", "a_")
}

// P5.1: texts without a token have no grams.
func TestGramsOfNoTokens(t *testing.T) {
	expectGrams(t, "")
	expectGrams(t, " ")
	expectGrams(t, "     ")
	expectGrams(t, strings.Repeat(" ", api.MaxText))
}

// P5.1: each token has grams of its own, and what lies on both sides of a space is no gram; the order of tokens and the number of spaces do not matter.
func TestGramsOfTokens(t *testing.T) {
	want := []string{"_a", "_l", "an", "ee", "e_", "le", "n_", "nn"}
	slices.Sort(want)
	for _, s := range []string{"ann lee", "lee ann", " ann  lee ", "   lee ann", "ann lee ann", "lee lee ann ann"} {
		expectGrams(t, s, want...)
	}
	expectGrams(t, "ab cd", "_a", "_c", "ab", "b_", "cd", "d_")
	expectGrams(t, "abcd", "_a", "ab", "bc", "cd", "d_")
	expectGrams(t, "main street 12", "12", "2_", "_1", "_m", "_s", "ai", "ee", "et", "in", "ma", "n_", "re", "st", "t_", "tr")
}

// P5.1: a gram that occurs several times, in a token or in several ones, is returned once.
func TestGramsOnce(t *testing.T) {
	expectGrams(t, "aaa", "_a", "a_", "aa")
	expectGrams(t, "ababab", "_a", "ab", "b_", "ba")
	expectGrams(t, "anna", "_a", "a_", "an", "na", "nn")
	expectGrams(t, "anna anna anna", "_a", "a_", "an", "na", "nn")
	expectGrams(t, "ab abc abcd", "_a", "ab", "b_", "bc", "c_", "cd", "d_")
	expectGrams(t, strings.Repeat("a", api.MaxText), "_a", "a_", "aa")
	expectGrams(t, strings.Repeat("a ", api.MaxText/2), "_a", "a_")
}

// P5.1: ascending is byte by byte: digits, the underscore and letters in this order.
func TestGramsAscending(t *testing.T) {
	expectGrams(t, "zyx1", "1_", "_z", "x1", "yx", "zy")
	expectGrams(t, "Za", "Za", "_Z", "a_")
	expectGrams(t, "\xffa\x00", "\x00_", "_\xff", "a\x00", "\xffa")
}

// P5.1: a text may have any bytes: underscores, letters of several bytes (each byte is one), and those that text.Fold does not permit.
func TestGramsOfBytes(t *testing.T) {
	for c := range 256 {
		s := one(c)
		want := []string{"_" + s, s + "_"}
		slices.Sort(want)
		switch s {
		case " ":
			want = nil
		case "_":
			want = []string{"__"}
		}
		expectGrams(t, s, want...)
		if s != " " && s != "_" {
			want = append(want, s+s)
			slices.Sort(want)
			expectGrams(t, s+s+" "+s, want...)
		}
	}
	expectGrams(t, "_", "__")
	expectGrams(t, "__ _", "__")
	expectGrams(t, "a_b", "_a", "_b", "a_", "b_")
	expectGrams(t, "\xc3\xa4", "_\xc3", "\xa4_", "\xc3\xa4")
	expectGrams(t, "a\tb\n", "\tb", "\n_", "_a", "a\t", "b\n")
	// A space of more than one byte parts no tokens.
	expectGrams(t, "a\xc2\xa0b", "_a", "a\xc2", "b_", "\xa0b", "\xc2\xa0")
}

// P5.1: a text of api.MaxText bytes has grams, a longer one has none, be its tokens as short as they may.
func TestGramsLimit(t *testing.T) {
	expectGrams(t, strings.Repeat("ab", api.MaxText/2), "_a", "ab", "b_", "ba")
	expectGrams(t, "ab"+strings.Repeat(" ", api.MaxText-2), "_a", "ab", "b_")
	expectGrams(t, strings.Repeat(" ", api.MaxText-1)+"a", "_a", "a_")
	expectGrams(t, strings.Repeat("\xc3\xa4", api.MaxText/2), "_\xc3", "\xa4_", "\xa4\xc3", "\xc3\xa4")
	for _, s := range []string{
		strings.Repeat("a", api.MaxText+1), "ab" + strings.Repeat(" ", api.MaxText-1), strings.Repeat(" ", api.MaxText) + "a",
		strings.Repeat(" ", api.MaxText+1), strings.Repeat("a ", api.MaxText/2) + "a", strings.Repeat("\xc3\xa4", api.MaxText/2) + "a",
		strings.Repeat("ab ", 1<<15), strings.Repeat("x", 1<<16),
	} {
		expectGrams(t, s)
	}
}

// P5.1: as many grams as a text may have: one token, and several ones, of bytes that all differ.
func TestGramsMost(t *testing.T) {
	var all []byte
	for c := 128; c < 128+api.MaxText; c++ {
		all = append(all, byte(c))
	}
	var want []string
	for i := 1; i < len(all); i++ {
		want = append(want, string(all[i-1:i+1]))
	}
	want = append(want, "_\x80", "\xbf_")
	slices.Sort(want)
	if len(want) != api.MaxText+1 || len(want) > api.MaxGrams {
		t.Fatalf("%d grams", len(want))
	}
	expectGrams(t, string(all), want...)

	short, want := "", nil
	for c := 128; len(short) < api.MaxText; c++ {
		short += one(c) + " "
		want = append(want, "_"+one(c), one(c)+"_")
	}
	slices.Sort(want)
	if len(want) != api.MaxText {
		t.Fatalf("%d grams", len(want))
	}
	expectGrams(t, short, want...)
}

// P5.1: of all texts with up to five of some bytes, two bytes are a gram exactly if they lie in a token between underscores.
func TestGramsOfAllShortTexts(t *testing.T) {
	alphabet := "ab _"
	texts := []string{""}
	for i := 0; i < len(texts); i++ {
		if len(texts[i]) < 5 {
			for _, c := range alphabet {
				texts = append(texts, texts[i]+string(c))
			}
		}
	}
	for _, s := range texts {
		var want []string
		for _, a := range "_ab" {
			for _, b := range "_ab" {
				if inToken(s, string(a)+string(b)) {
					want = append(want, string(a)+string(b))
				}
			}
		}
		expectGrams(t, s, want...)
	}
}

// inToken reports whether a token of a text, with an underscore put before and behind it, contains a text.
func inToken(s, part string) bool {
	return slices.ContainsFunc(strings.Fields(s), func(token string) bool { return strings.Contains("_"+token+"_", part) })
}

// P5.1, consequences: a change of one byte of a token changes at most two bigrams.
func TestGramsOfChange(t *testing.T) {
	for _, s := range []string{"a", "ab", "ann", "anna", "robert smith", "main street 12", "aaaa", "a b c", strings.Repeat("xy", api.MaxText/2)} {
		for i := range s {
			if s[i] == ' ' {
				continue
			}
			for _, c := range "abxz_\x00" {
				changed := s[:i] + string(c) + s[i+1:]
				old, recent := gram.Grams(s), gram.Grams(changed)
				both := gram.Common(old, recent)
				if len(old)-both > 2 || len(recent)-both > 2 {
					t.Errorf("%q has %q, %q has %q", s, old, changed, recent)
				}
			}
		}
	}
}

// P5.1: each byte of a text is returned behind the letter of its position, spaces and repeated bytes too.
func TestPositional(t *testing.T) {
	expectPositional(t, "")
	expectPositional(t, "x", "ax")
	expectPositional(t, "20000203", "a2", "b0", "c0", "d0", "e0", "f2", "g0", "h3")
	expectPositional(t, "cba", "ac", "bb", "ca")
	expectPositional(t, "aaa", "aa", "ba", "ca")
	expectPositional(t, " a  ", "a ", "ba", "c ", "d ")
	expectPositional(t, "_Z-", "a_", "bZ", "c-")
	expectPositional(t, "\xc3\xa4\xff", "a\xc3", "b\xa4", "c\xff")
}

// P5.1: every byte at every position.
func TestPositionalOfBytes(t *testing.T) {
	letters := "abcdefghijklmnopqrstuvwxyz"
	for c := range 256 {
		for n := 1; n <= len(letters); n++ {
			var want []string
			for i := range n - 1 {
				want = append(want, letters[i:i+1]+"0")
			}
			want = append(want, letters[n-1:n]+one(c))
			expectPositional(t, strings.Repeat("0", n-1)+one(c), want...)
		}
	}
}

// P5.1: a text of 26 bytes has grams with positions, a longer one has none.
func TestPositionalLimit(t *testing.T) {
	expectPositional(t, "zyxwvutsrqponmlkjihgfedcba",
		"az", "by", "cx", "dw", "ev", "fu", "gt", "hs", "ir", "jq", "kp", "lo", "mn", "nm", "ol", "pk", "qj", "ri", "sh", "tg", "uf", "ve", "wd", "xc", "yb", "za")
	expectPositional(t, strings.Repeat("\xc3\xa4", 13),
		"a\xc3", "b\xa4", "c\xc3", "d\xa4", "e\xc3", "f\xa4", "g\xc3", "h\xa4", "i\xc3", "j\xa4", "k\xc3", "l\xa4", "m\xc3",
		"n\xa4", "o\xc3", "p\xa4", "q\xc3", "r\xa4", "s\xc3", "t\xa4", "u\xc3", "v\xa4", "w\xc3", "x\xa4", "y\xc3", "z\xa4")
	for _, s := range []string{
		strings.Repeat("a", 27), strings.Repeat(" ", 27), strings.Repeat("\xc3\xa4", 13) + "a", "zyxwvutsrqponmlkjihgfedcba ",
		strings.Repeat("0", 28), strings.Repeat("a", api.MaxText), strings.Repeat("a", api.MaxText+1), strings.Repeat("a", 256), strings.Repeat("x", 1<<16),
	} {
		expectPositional(t, s)
	}
}

// expectSet checks the set of a list, that neither the list nor what lies behind it is changed, and that the result is new.
func expectSet(t *testing.T, list []string, want ...string) {
	t.Helper()
	longer := append(slices.Clone(list), "behind", "it")
	before := slices.Clone(longer)
	for range 2 {
		got := gram.Set(longer[:len(list)])
		if !slices.Equal(got, want) {
			t.Errorf("Set(%q) is %q, not %q", list, got, want)
		}
		got = append(got, "more")
		for i := range got {
			got[i] = "changed"
		}
		if !slices.Equal(before, longer) {
			t.Errorf("Set has changed %q to %q", before, longer)
		}
	}
}

// P5.2: Set sorts byte by byte and leaves each element once, whatever the elements are.
func TestSet(t *testing.T) {
	expectSet(t, nil)
	expectSet(t, []string{})
	expectSet(t, []string{""}, "")
	expectSet(t, []string{"a"}, "a")
	expectSet(t, []string{"a", "b", "c"}, "a", "b", "c")
	expectSet(t, []string{"c", "b", "a"}, "a", "b", "c")
	expectSet(t, []string{"b", "c", "a", "b"}, "a", "b", "c")
	expectSet(t, []string{"a", "a"}, "a")
	expectSet(t, []string{"", "", "a", ""}, "", "a")
	expectSet(t, []string{"b", "a", "b", "a", "b"}, "a", "b")
	expectSet(t, []string{"ab", "a", "b", "aa", "abc"}, "a", "aa", "ab", "abc", "b")
	expectSet(t, []string{"a", "A", " a", "a "}, " a", "A", "a", "a ")
	expectSet(t, []string{"10", "9", "1", "_", "a", "Z"}, "1", "10", "9", "Z", "_", "a")
	expectSet(t, []string{"\xff", "\x00", "\xc3\xa4", "\x7f", "\xc3"}, "\x00", "\x7f", "\xc3", "\xc3\xa4", "\xff")
	expectSet(t, append(gram.Grams("nnan"), gram.Grams("ann")...), "_a", "_n", "an", "n_", "na", "nn")
	all := numbers(0, 900)
	expectSet(t, all, all...)
	backward := slices.Clone(all)
	slices.Reverse(backward)
	expectSet(t, backward, all...)
	expectSet(t, slices.Concat(all, backward, all), all...)
}

// P5.2: each byte is an element of its own.
func TestSetOfBytes(t *testing.T) {
	var list, want []string
	for c := range 256 {
		list = append(list, one(255-c), one(c))
		want = append(want, one(c))
	}
	expectSet(t, list, want...)
}

// expectAlike checks Common and Dice of two lists, in both orders and with repeated and unordered elements, and that no list is changed.
func expectAlike(t *testing.T, a, b []string, common, dice int) {
	t.Helper()
	mixedA, mixedB := mixed(a), mixed(b)
	for _, lists := range [][2][]string{{a, b}, {b, a}, {mixedA, b}, {b, mixedA}, {a, mixedB}, {mixedB, mixedA}} {
		one, other := slices.Clone(lists[0]), slices.Clone(lists[1])
		if got := gram.Common(one, other); got != common {
			t.Errorf("Common(%q, %q) is %d, not %d", one, other, got, common)
		}
		if got := gram.Dice(one, other); got != dice {
			t.Errorf("Dice(%q, %q) is %d, not %d", one, other, got, dice)
		}
		if !slices.Equal(one, lists[0]) || !slices.Equal(other, lists[1]) {
			t.Errorf("the lists %q have become %q and %q", lists, one, other)
		}
	}
}

// mixed returns a list with the same set, whose elements are not ascending and occur several times.
func mixed(list []string) []string {
	backward := slices.Clone(list)
	slices.Reverse(backward)
	return slices.Concat(backward, list, list)
}

// P5.2: the example of the document, and other texts.
func TestDiceExamples(t *testing.T) {
	expectAlike(t, gram.Grams("ann"), gram.Grams("an"), 3, 857)
	expectAlike(t, gram.Grams("ann"), gram.Grams("ann"), 4, 1000)
	expectAlike(t, gram.Grams("robert"), gram.Grams("rupert"), 4, 571)
	expectAlike(t, gram.Grams("ann lee"), gram.Grams("lee ann"), 8, 1000)
	expectAlike(t, gram.Grams("ann"), gram.Grams("bob"), 0, 0)
	expectAlike(t, gram.Positional("20000203"), gram.Positional("20000302"), 6, 750)
	expectAlike(t, gram.Grams("ann"), gram.Grams(strings.Repeat("ann ", 17)), 0, 0)
}

// P5.2: empty lists; the empty text is an element like others.
func TestDiceOfEmpty(t *testing.T) {
	for _, empty := range [][]string{nil, {}} {
		expectAlike(t, empty, nil, 0, 0)
		expectAlike(t, empty, []string{}, 0, 0)
		expectAlike(t, empty, []string{"a"}, 0, 0)
		expectAlike(t, empty, []string{""}, 0, 0)
		expectAlike(t, empty, numbers(0, 100), 0, 0)
	}
	expectAlike(t, []string{""}, []string{""}, 1, 1000)
	expectAlike(t, []string{"", "a"}, []string{"a", "b"}, 1, 500)
}

// P5.2: sets that are equal, and sets with nothing in common.
func TestDiceOfEqualAndDifferent(t *testing.T) {
	for n := 1; n < 90; n++ {
		expectAlike(t, numbers(0, n), numbers(0, n), n, 1000)
		expectAlike(t, numbers(0, n), numbers(n, 2*n), 0, 0)
		expectAlike(t, numbers(0, n), numbers(n, n+1), 0, 0)
	}
	// Elements are compared as a whole and byte by byte.
	expectAlike(t, []string{"a", "ab"}, []string{"A", "aB", "b", " a"}, 0, 0)
	expectAlike(t, []string{"\xc3\xa4", "\xff"}, []string{"\xc3\xa4", "\xfe"}, 1, 500)
}

// P5.2: numbers are rounded half up.
func TestDiceRounded(t *testing.T) {
	for _, c := range []struct{ a, b, common, want int }{
		{1, 2, 1, 667},   // 666.67
		{1, 5, 1, 333},   // 333.33
		{4, 3, 3, 857},   // 857.14
		{3, 6, 2, 444},   // 444.44
		{3, 6, 1, 222},   // 222.22
		{3, 4, 2, 571},   // 571.43
		{3, 4, 1, 286},   // 285.71
		{8, 8, 1, 125},   // 125
		{16, 16, 1, 63},  // 62.5
		{16, 16, 3, 188}, // 187.5
		{16, 16, 5, 313}, // 312.5
		{16, 16, 15, 938},
		{1, 31, 1, 63},
		{32, 32, 1, 31},    // 31.25
		{32, 32, 3, 94},    // 93.75
		{80, 80, 79, 988},  // 987.5
		{65, 65, 64, 985},  // 984.62
		{65, 1, 1, 30},     // 30.30
		{800, 800, 1, 1},   // 1.25
		{1000, 1000, 1, 1}, // 1
	} {
		expectAlike(t, numbers(0, c.a), numbers(c.a-c.common, c.a-c.common+c.b), c.common, c.want)
	}
}

// P5.2: of all sizes of two small sets, the result is the number that is nearest, and the greater one of two.
func TestDiceOfSizes(t *testing.T) {
	for a := range 13 {
		for b := range 13 {
			for common := range min(a, b) + 1 {
				expectAlike(t, numbers(0, a), numbers(a-common, a-common+b), common, nearest(2000*common, a+b))
			}
		}
	}
}

// nearest returns the greatest number up to 1000 that exceeds n / d by at most a half; 0 if d is 0.
func nearest(n, d int) int {
	if d == 0 {
		return 0
	}
	result := 0
	for result < 1000 && 2*(result+1)*d-2*n <= d {
		result++
	}
	return result
}

// P5.2: large lists are rounded like others, so that one element in common may count as nothing, and one that is not as nothing too.
func TestDiceOfLargeLists(t *testing.T) {
	expectAlike(t, numbers(0, 2000), numbers(1999, 3999), 1, 1)      // 0.5
	expectAlike(t, numbers(0, 2000), numbers(1999, 4000), 1, 0)      // 0.4999
	expectAlike(t, numbers(0, 1000), numbers(0, 999), 999, 999)      // 999.4997
	expectAlike(t, numbers(0, 1001), numbers(0, 1000), 1000, 1000)   // 999.5002
	expectAlike(t, numbers(0, 1999), numbers(1, 2000), 1998, 999)    // 999.4997
	expectAlike(t, numbers(0, 2000), numbers(1, 2001), 1999, 1000)   // 999.5
	expectAlike(t, numbers(0, 9000), numbers(4500, 9000), 4500, 667) // 666.67
}

// P5.2, consequences: Dice of grams is 1000 exactly for equal sets that are not empty.
func TestDiceOfGrams(t *testing.T) {
	var lists [][]string
	for _, s := range []string{"", "a", "b", "ann", "an", "anna", "nan", "ann anna", "robert", "rupert", "main street 12", strings.Repeat("ab", 32), strings.Repeat("ab", 31) + "ba"} {
		lists = append(lists, gram.Grams(s), gram.Positional(s))
	}
	for _, a := range lists {
		for _, b := range lists {
			dice := gram.Dice(a, b)
			if dice != gram.Dice(b, a) || dice < 0 || dice > 1000 {
				t.Errorf("Dice(%q, %q) is %d", a, b, dice)
			}
			if (dice == 1000) != (len(a) > 0 && slices.Equal(a, b)) {
				t.Errorf("Dice(%q, %q) is %d", a, b, dice)
			}
		}
	}
}
