package distance_test

import (
	"math"
	"slices"
	"strings"
	"testing"

	"recordlink/api"
	"recordlink/distance"
)

// kinds are the kinds of changes, in the order in which Script prefers them.
var kinds = []int{api.ChangeReplace, api.ChangeDelete, api.ChangeInsert, api.ChangeSwap}

// far are numbers at the ends of what an int holds, and beyond the places and bytes that are permitted.
var far = []int{math.MinInt, math.MinInt + 1, math.MinInt32, -256, -2, -1, 256, 257, math.MaxInt32, math.MaxInt - 2, math.MaxInt - 1, math.MaxInt}

// noKinds are numbers that are no kind of a change.
var noKinds = []int{math.MinInt, -4, -1, 0, 5, 6, 8, 256 + api.ChangeSwap, math.MaxInt}

func insert(at int, c byte) api.Change {
	return api.Change{Kind: api.ChangeInsert, At: at, Byte: int(c)}
}
func replace(at int, c byte) api.Change {
	return api.Change{Kind: api.ChangeReplace, At: at, Byte: int(c)}
}
func remove(at int) api.Change { return api.Change{Kind: api.ChangeDelete, At: at} }
func swap(at int) api.Change   { return api.Change{Kind: api.ChangeSwap, At: at} }

// change returns a change of a kind, with a byte if it has one.
func change(kind, at int) api.Change {
	if kind == api.ChangeInsert || kind == api.ChangeReplace {
		return api.Change{Kind: kind, At: at, Byte: 'z'}
	}
	return api.Change{Kind: kind, At: at}
}

// size returns how many bytes a change of a kind touches.
func size(kind int) int {
	return map[int]int{api.ChangeDelete: 1, api.ChangeReplace: 1, api.ChangeSwap: 2}[kind]
}

// list returns its arguments.
func list(l ...api.Change) []api.Change { return l }

// one returns the text of one byte.
func one(c int) string { return string([]byte{byte(c)}) }

// allBytes returns the text of the 64 bytes from a number on.
func allBytes(from int) string {
	var b []byte
	for i := range api.MaxText {
		b = append(b, byte(from+i))
	}
	return string(b)
}

// inserts returns a number of insertions at a place.
func inserts(n, at int) []api.Change {
	var l []api.Change
	for i := range n {
		l = append(l, insert(at, byte('a'+i%26)))
	}
	return l
}

// expectNumber checks what a function returns of two texts, in both orders.
func expectNumber(t *testing.T, name string, f func(a, b string) (int, api.Errno), a, b string, want int) {
	t.Helper()
	for _, pair := range [][2]string{{a, b}, {b, a}} {
		if got, e := f(pair[0], pair[1]); got != want || e != api.OK {
			t.Errorf("%s(%q, %q) is %d, %d, not %d", name, pair[0], pair[1], got, e, want)
		}
	}
}

// expectEdit checks the distance of two texts, in both orders.
func expectEdit(t *testing.T, a, b string, want int) {
	t.Helper()
	expectNumber(t, "Edit", distance.Edit, a, b, want)
}

// expectSimilar checks the similarity of two texts, in both orders.
func expectSimilar(t *testing.T, a, b string, want int) {
	t.Helper()
	expectNumber(t, "Similar", distance.Similar, a, b, want)
}

// expectScript checks the list of two texts, its length, and what Apply and Proves say of it.
func expectScript(t *testing.T, a, b string, want ...api.Change) {
	t.Helper()
	if got, e := distance.Script(a, b); !slices.Equal(got, want) || e != api.OK {
		t.Errorf("Script(%q, %q) is %v, %d, not %v", a, b, got, e, want)
	}
	expectEdit(t, a, b, len(want))
	expectApply(t, a, b, want...)
}

// expectApply checks that a list leads from one text to another one, and to that one alone.
func expectApply(t *testing.T, a, want string, l ...api.Change) {
	t.Helper()
	before := slices.Clone(l)
	if got, e := distance.Apply(a, l); got != want || e != api.OK {
		t.Errorf("Apply(%q, %v) is %q, %d, not %q", a, l, got, e, want)
	}
	if !distance.Proves(a, want, l) {
		t.Errorf("Proves(%q, %q, %v) is false", a, want, l)
	}
	for _, other := range []string{want + "z", want + "\x00", "z" + want, want + want + "z", strings.ToUpper(want) + "!"} {
		if distance.Proves(a, other, l) {
			t.Errorf("Proves(%q, %q, %v) is true", a, other, l)
		}
	}
	if want != "" && distance.Proves(a, want[1:], l) || want != "" && distance.Proves(a, want[:len(want)-1], l) {
		t.Errorf("Proves(%q, .., %v) is true for a part of %q", a, l, want)
	}
	if !slices.Equal(l, before) {
		t.Errorf("Apply changed %v to %v", before, l)
	}
}

// expectError checks the error of Apply, and that nothing is proved.
func expectError(t *testing.T, a string, want api.Errno, l ...api.Change) {
	t.Helper()
	if got, e := distance.Apply(a, l); got != "" || e != want {
		t.Errorf("Apply(%q, %v) is %q, %d, not error %d", a, l, got, e, want)
	}
	for _, b := range []string{"", a, "z", a + "z", "z" + a} {
		if distance.Proves(a, b, l) {
			t.Errorf("Proves(%q, %q, %v) is true", a, b, l)
		}
	}
}

// expectLimit checks that two texts are too long for a comparison, in both orders.
func expectLimit(t *testing.T, a, b string) {
	t.Helper()
	for _, pair := range [][2]string{{a, b}, {b, a}} {
		if got, e := distance.Edit(pair[0], pair[1]); got != 0 || e != api.ErrLimit {
			t.Errorf("Edit of %d and %d bytes is %d, %d", len(pair[0]), len(pair[1]), got, e)
		}
		if got, e := distance.Similar(pair[0], pair[1]); got != 0 || e != api.ErrLimit {
			t.Errorf("Similar of %d and %d bytes is %d, %d", len(pair[0]), len(pair[1]), got, e)
		}
		if got, e := distance.Script(pair[0], pair[1]); len(got) != 0 || e != api.ErrLimit {
			t.Errorf("Script of %d and %d bytes is %v, %d", len(pair[0]), len(pair[1]), got, e)
		}
	}
}

// P7.1: the examples of the document, and other texts.
func TestEditExamples(t *testing.T) {
	expectEdit(t, "marta", "matra", 1)
	expectEdit(t, "ca", "abc", 3)
	expectEdit(t, "kitten", "sitting", 3)
	expectEdit(t, "robert", "rupert", 2)
	expectEdit(t, "robert", "robetr", 1)
	expectEdit(t, "saturday", "sunday", 3)
	expectEdit(t, "19990203", "19990302", 2)
	expectEdit(t, "abc", "xyz", 3)
	expectEdit(t, "abcdef", "fedcba", 5)
	// Bytes are compared as they are, capital letters and parts of longer letters too.
	expectEdit(t, "Ann", "ann", 1)
	expectEdit(t, "m\xc3\xbcller", "muller", 2)
	expectEdit(t, "m\xc3\xbcller", "m\xbc\xc3ller", 1)
	expectEdit(t, "\xc3\xbc", "\xc3\xb6", 1)
}

// P7.1 and P7.3: equal texts, and an empty text on either side and on both.
func TestEqualAndEmpty(t *testing.T) {
	for _, s := range []string{"", "a", "aa", "ab", "abab", "robert smith", "\x00", "\xff\x00\xff", allBytes(0), allBytes(192)} {
		expectScript(t, s, s)
		expectSimilar(t, s, s, 1000)
		var added, dropped []api.Change
		for i := range len(s) {
			added, dropped = append(added, insert(0, s[i])), append(dropped, remove(i))
		}
		expectScript(t, "", s, added...)
		expectScript(t, s, "", dropped...)
		if s != "" {
			expectSimilar(t, s, "", 0)
		}
	}
}

// P7.1 to P7.3: one change of each kind at the beginning, in the middle and at the end.
func TestOneChange(t *testing.T) {
	for want, changes := range map[string]api.Change{
		"xabcd": insert(0, 'x'), "axbcd": insert(1, 'x'), "abxcd": insert(2, 'x'), "abcxd": insert(3, 'x'), "abcdx": insert(4, 'x'),
		"bcd": remove(0), "acd": remove(1), "abd": remove(2), "abc": remove(3),
		"xbcd": replace(0, 'x'), "axcd": replace(1, 'x'), "abxd": replace(2, 'x'), "abcx": replace(3, 'x'),
		"bacd": swap(0), "acbd": swap(1), "abdc": swap(2),
	} {
		expectScript(t, "abcd", want, changes)
		expectSimilar(t, "abcd", want, 1000-1000/max(4, len(want)))
	}
	expectScript(t, "a", "b", replace(0, 'b'))
	expectScript(t, "ab", "ba", swap(0))
}

// P7.1 to P7.3: exchanged bytes side by side, and with another change beside them.
func TestExchanged(t *testing.T) {
	expectScript(t, "abcd", "badc", swap(0), swap(2))
	expectScript(t, "abcdef", "badcfe", swap(0), swap(2), swap(4))
	expectScript(t, "xabx", "xbax", swap(1))
	// A byte cannot be exchanged twice.
	expectEdit(t, "abc", "bca", 2)
	expectEdit(t, "abc", "cab", 2)
	expectEdit(t, "abcd", "bcda", 2)
	expectEdit(t, "abc", "cba", 2)
	// Beside them, before and behind.
	expectScript(t, "xab", "yba", replace(0, 'y'), swap(1))
	expectScript(t, "abx", "bay", swap(0), replace(2, 'y'))
	expectScript(t, "abx", "baxy", swap(0), insert(3, 'y'))
	expectScript(t, "abxy", "bax", swap(0), remove(3))
	expectScript(t, "xab", "yxba", insert(0, 'y'), swap(1))
	// Side by side with one, there may be another list that is as short: see TestChoices.
	for _, ends := range [][2]string{{"ab", "xba"}, {"ab", "bax"}, {"xab", "ba"}, {"abx", "ba"}, {"xyab", "xba"}, {"xab", "xyba"}} {
		expectEdit(t, ends[0], ends[1], 2)
	}
	// What is exchanged is touched: nothing comes between it.
	expectEdit(t, "ab", "bxa", 3)
	expectEdit(t, "axb", "ba", 3)
	expectEdit(t, "axb", "bxa", 2)
	expectEdit(t, "abcb", "bacxb", 2)
	// Equal bytes need not be exchanged.
	expectEdit(t, "aab", "aba", 1)
	expectEdit(t, "aabb", "abab", 1)
	expectEdit(t, "abab", "baba", 2)
	expectEdit(t, "aa", "aa", 0)
}

// P7.1: Similar is rounded down, by the length of the longer text.
func TestSimilar(t *testing.T) {
	expectSimilar(t, "", "", 1000)
	expectSimilar(t, "", "a", 0)
	expectSimilar(t, "a", "b", 0)
	expectSimilar(t, "ab", "ba", 500)
	expectSimilar(t, "marta", "matra", 800)
	expectSimilar(t, "ca", "abc", 0)
	expectSimilar(t, "abc", "abd", 666)
	expectSimilar(t, "abc", "ab", 666)
	expectSimilar(t, "abc", "b", 333)
	expectSimilar(t, "robert", "rupert", 666)
	expectSimilar(t, "robert", "roberts", 857)
	expectSimilar(t, "kitten", "sitting", 571)
	for n := 1; n <= api.MaxText; n++ {
		equal := strings.Repeat("a", n)
		for k := range n + 1 {
			expectSimilar(t, equal, equal[k:], 1000*(n-k)/n)
			expectSimilar(t, equal, strings.Repeat("b", k)+equal[k:], 1000*(n-k)/n)
		}
	}
	expectSimilar(t, strings.Repeat("a", 64), "b"+strings.Repeat("a", 63), 984)
}

// P7.1 and P7.3: texts at the limit and beyond it.
func TestLimits(t *testing.T) {
	most, more := strings.Repeat("a", api.MaxText), strings.Repeat("a", api.MaxText+1)
	expectScript(t, most, most)
	expectEdit(t, most, "", api.MaxText)
	expectEdit(t, most, strings.Repeat("b", api.MaxText), api.MaxText)
	expectEdit(t, most, most[1:], 1)
	expectScript(t, most[1:]+"b", "b"+most[1:], replace(0, 'b'), replace(api.MaxText-1, 'a'))
	expectEdit(t, strings.Repeat("ab", api.MaxText/2), strings.Repeat("ba", api.MaxText/2), 2)
	expectEdit(t, strings.Repeat("abx", api.MaxText/3), strings.Repeat("bax", api.MaxText/3), api.MaxText/3)
	expectEdit(t, allBytes(0), allBytes(64), api.MaxText)
	for _, b := range []string{"", "a", most, more, strings.Repeat("b", 1<<16)} {
		expectLimit(t, more, b)
		expectLimit(t, strings.Repeat("\xff", api.MaxText+1), b)
		expectLimit(t, strings.Repeat("a", 1<<16), b)
	}
}

// P7.1 to P7.3: bytes of every value are bytes like others.
func TestAllBytes(t *testing.T) {
	for c := range 256 {
		expectScript(t, "", one(c), insert(0, byte(c)))
		expectScript(t, one(c), "", remove(0))
		expectScript(t, one(c), one(c))
		expectScript(t, one(c)+"x", "x", remove(0))
		for d := range 256 {
			if c == d {
				continue
			}
			expectScript(t, one(c), one(d), replace(0, byte(d)))
			expectScript(t, one(c)+one(d), one(d)+one(c), swap(0))
		}
	}
	for from := 0; from < 256; from += api.MaxText {
		s := allBytes(from)
		expectScript(t, s, s[1:], remove(0))
		expectScript(t, s, s[1:]+s[:1], remove(0), insert(api.MaxText, s[0]))
		expectScript(t, s, s[:30]+s[31:32]+s[30:31]+s[32:], swap(30))
		expectScript(t, s[:40]+s[41:], s, insert(40, s[40]))
	}
}

// P7.3: of several shortest lists, the one with the preferred choice at the end is returned, for each two choices.
func TestChoices(t *testing.T) {
	// Keeping, instead of ChangeDelete and ChangeInsert.
	expectScript(t, "aa", "a", remove(0))
	expectScript(t, "a", "aa", insert(0, 'a'))
	expectScript(t, "aaa", "a", remove(0), remove(1))
	expectScript(t, "baab", "bab", remove(1))
	expectScript(t, "bab", "baab", insert(1, 'a'))
	// ChangeReplace, instead of ChangeDelete, ChangeInsert and ChangeSwap.
	expectScript(t, "ab", "c", remove(0), replace(1, 'c'))
	expectScript(t, "a", "bc", insert(0, 'b'), replace(0, 'c'))
	expectScript(t, "ab", "bc", replace(0, 'b'), replace(1, 'c'))
	expectScript(t, "aba", "bab", swap(0), replace(2, 'b'))
	// ChangeDelete, instead of ChangeInsert and ChangeSwap.
	expectScript(t, "aba", "bcab", insert(0, 'b'), insert(0, 'c'), remove(2))
	expectScript(t, "aba", "cab", insert(0, 'c'), remove(2))
	expectScript(t, "xab", "ba", replace(0, 'b'), remove(2))
	expectScript(t, "xyab", "xba", replace(1, 'b'), remove(3))
	expectScript(t, "abab", "baba", insert(0, 'b'), remove(3))
	// ChangeInsert, instead of ChangeSwap.
	expectScript(t, "ab", "cba", replace(0, 'c'), insert(2, 'a'))
	expectScript(t, "ab", "bba", replace(0, 'b'), insert(2, 'a'))
	// The choice is made from the end: what lies in front gives way.
	expectScript(t, "ab", "bax", insert(0, 'b'), replace(1, 'x'))
	expectScript(t, "abx", "ba", remove(0), replace(2, 'a'))
	expectScript(t, "ca", "abc", insert(0, 'a'), replace(0, 'b'), replace(1, 'c'))
	expectScript(t, "marta", "matra", swap(2))
	expectScript(t, "kitten", "sitting", replace(0, 's'), replace(4, 'i'), insert(6, 'g'))
}

// P7.1 and P7.3: of all ordered lists of texts of up to three letters of three, and up to four of two, none is shorter, and none as short is preferred.
func TestAllLists(t *testing.T) {
	checkAllLists(t, "abc", 3)
	checkAllLists(t, "ab", 4)
}

// checkAllLists compares Edit and Script with all ordered lists of changes, for all texts of letters up to a length.
func checkAllLists(t *testing.T, letters string, longest int) {
	t.Helper()
	texts := allTexts(letters, longest)
	for _, a := range texts {
		found := map[string]way{}
		eachList(letters, len(a), 0, longest, nil, func(l []api.Change) {
			b := carriedOut(a, l)
			w := way{len(l), choices(len(a), l), slices.Clone(l)}
			if old, ok := found[b]; !ok || w.length < old.length || w.length == old.length && w.choices < old.choices {
				found[b] = w
			}
		})
		for _, b := range texts {
			expectScript(t, a, b, found[b].list...)
		}
	}
}

// A way is a list of changes, its length, and its choices from the end.
type way struct {
	length  int
	choices string
	list    []api.Change
}

// allTexts returns all texts of letters up to a length.
func allTexts(letters string, longest int) []string {
	texts := []string{""}
	for i := 0; i < len(texts); i++ {
		if len(texts[i]) < longest {
			for _, c := range letters {
				texts = append(texts, texts[i]+string(c))
			}
		}
	}
	return texts
}

// eachList calls f with all ordered lists that extend l by at most so many changes from a place on, of a text of so many bytes.
func eachList(letters string, length, from, most int, l []api.Change, f func([]api.Change)) {
	f(l)
	if most == 0 {
		return
	}
	for at := from; at <= length; at++ {
		for _, kind := range kinds {
			if at+size(kind) > length {
				continue
			}
			c := change(kind, at)
			if c.Byte == 0 {
				eachList(letters, length, at+size(kind), most-1, append(l, c), f)
				continue
			}
			for i := range letters {
				c.Byte = int(letters[i])
				eachList(letters, length, at+size(kind), most-1, append(l, c), f)
			}
		}
	}
}

// carriedOut returns what changes make of a text: from the last one to the first one, so that the places of the old text hold.
func carriedOut(a string, l []api.Change) string {
	for _, c := range slices.Backward(l) {
		behind := a[c.At:]
		switch c.Kind {
		case api.ChangeInsert:
			behind = one(c.Byte) + behind
		case api.ChangeReplace:
			behind = one(c.Byte) + behind[1:]
		case api.ChangeDelete:
			behind = behind[1:]
		case api.ChangeSwap:
			behind = behind[1:2] + behind[:1] + behind[2:]
		}
		a = a[:c.At] + behind
	}
	return a
}

// choices returns the choices of a list from the end of a text of so many bytes, a letter for each one: the preferred one is the least.
func choices(length int, l []api.Change) string {
	made, end := "", length
	for _, c := range slices.Backward(l) {
		at := c.At + size(c.Kind)
		made += strings.Repeat("0", end-at) + string("1234"[slices.Index(kinds, c.Kind)])
		end = c.At
	}
	return made + strings.Repeat("0", end)
}

// P7.1 and P7.3: distances of long texts of few and of many letters are those of the definition, and their lists are as short and prove them.
func TestLongTexts(t *testing.T) {
	state := uint32(1)
	next := func(n int) int {
		state = state*1664525 + 1013904223
		return int(state>>16) % n
	}
	for round := range 400 {
		letters := []int{2, 3, 5, 256}[round%4]
		a := []byte{}
		for range next(api.MaxText + 1) {
			a = append(a, byte(next(letters)))
		}
		b := slices.Clone(a)
		for range next(20) {
			b = disturbed(b, next(4), next(len(b)+1), byte(next(letters)))
		}
		checkPair(t, string(a), string(b[:min(len(b), api.MaxText)]))
	}
}

// disturbed returns a text with one change, if it is possible.
func disturbed(b []byte, kind, at int, c byte) []byte {
	switch {
	case kind == 0:
		return slices.Insert(b, at, c)
	case kind == 1 && at < len(b):
		return slices.Delete(b, at, at+1)
	case kind == 2 && at < len(b):
		b[at] = c
	case kind == 3 && at+1 < len(b):
		b[at], b[at+1] = b[at+1], b[at]
	}
	return b
}

// checkPair compares the distance of two texts with the definition, and checks their list and the consequences.
func checkPair(t *testing.T, a, b string) {
	t.Helper()
	want := defined(a, b)
	expectEdit(t, a, b, want)
	longer := max(len(a), len(b))
	if want > longer || want < longer-min(len(a), len(b)) || (want == 0) != (a == b) {
		t.Errorf("the distance of %q and %q is %d", a, b, want)
	}
	if longer > 0 {
		expectSimilar(t, a, b, 1000*(longer-want)/longer)
	}
	l, e := distance.Script(a, b)
	if len(l) != want || e != api.OK || carriedOut(a, l) != b {
		t.Errorf("Script(%q, %q) is %v, %d", a, b, l, e)
	}
	expectApply(t, a, b, l...)
}

// defined returns the distance of two texts from their beginnings: what is left of both, after each first change.
func defined(a, b string) int {
	left := make([][]int, len(a)+1)
	for i := len(a); i >= 0; i-- {
		left[i] = make([]int, len(b)+1)
		for j := len(b); j >= 0; j-- {
			least := len(a) - i + len(b) - j
			if i < len(a) {
				least = min(least, 1+left[i+1][j])
			}
			if j < len(b) {
				least = min(least, 1+left[i][j+1])
			}
			if i < len(a) && j < len(b) {
				replaced := 1
				if a[i] == b[j] {
					replaced = 0
				}
				least = min(least, replaced+left[i+1][j+1])
			}
			if i+1 < len(a) && j+1 < len(b) && a[i] == b[j+1] && a[i+1] == b[j] {
				least = min(least, 1+left[i+2][j+2])
			}
			left[i][j] = least
		}
	}
	return left[0][0]
}

// R2: a list that is returned belongs to the caller.
func TestScriptIsNew(t *testing.T) {
	first, _ := distance.Script("marta", "xmatra")
	want := slices.Clone(first)
	for i := range first {
		first[i] = api.Change{}
	}
	if second, _ := distance.Script("marta", "xmatra"); !slices.Equal(second, want) {
		t.Errorf("the second list is %v, not %v", second, want)
	}
}

// P7.2: lists of several changes; insertions at one place follow each other, and come before what happens to the byte behind them.
func TestApplySeveral(t *testing.T) {
	expectApply(t, "abcd", "abcd")
	expectApply(t, "", "")
	expectApply(t, "", "xyz", insert(0, 'x'), insert(0, 'y'), insert(0, 'z'))
	expectApply(t, "ab", "axyzb", insert(1, 'x'), insert(1, 'y'), insert(1, 'z'))
	expectApply(t, "ab", "xb", insert(0, 'x'), remove(0))
	expectApply(t, "ab", "xyb", insert(0, 'x'), replace(0, 'y'))
	expectApply(t, "ab", "xba", insert(0, 'x'), swap(0))
	expectApply(t, "ab", "xb", remove(0), insert(1, 'x'))
	expectApply(t, "ab", "xyb", replace(0, 'x'), insert(1, 'y'))
	expectApply(t, "ab", "bax", swap(0), insert(2, 'x'))
	expectApply(t, "abc", "", remove(0), remove(1), remove(2))
	expectApply(t, "abc", "xyz", replace(0, 'x'), replace(1, 'y'), replace(2, 'z'))
	expectApply(t, "abcd", "badc", swap(0), swap(2))
	expectApply(t, "abcde", "cbd", remove(0), swap(1), remove(4))
	// Places are those of the old text, whatever was done before them.
	expectApply(t, "abcdef", "xyacbdf", insert(0, 'x'), insert(0, 'y'), swap(1), remove(4))
	expectApply(t, "abcdef", "cdefx", remove(0), remove(1), insert(6, 'x'))
	expectApply(t, "abcdefgh", "bcdxegfh!", remove(0), insert(4, 'x'), swap(5), insert(8, '!'))
}

// P7.2 and P7.3: changes that change nothing are carried out as others are, and a list may be longer than it need be.
func TestLongerLists(t *testing.T) {
	expectApply(t, "abc", "abc", replace(1, 'b'))
	expectApply(t, "aab", "aab", swap(0))
	expectApply(t, "ab", "ab", remove(0), insert(1, 'a'))
	expectApply(t, "ab", "ba", replace(0, 'b'), replace(1, 'a'))
	expectApply(t, "ab", "ba", remove(0), insert(2, 'a'))
	expectApply(t, "abc", "abd", remove(0), remove(1), remove(2), insert(3, 'a'), insert(3, 'b'), insert(3, 'd'))
	for a, b := range map[string]string{"marta": "matra", "ca": "abc", "": "ann", "robert": "rupert"} {
		l := []api.Change{}
		for i := range len(a) {
			l = append(l, remove(i))
		}
		for i := range len(b) {
			l = append(l, insert(len(a), b[i]))
		}
		expectApply(t, a, b, l...)
	}
}

// P7.3: lists that lead elsewhere, or nowhere, prove nothing.
func TestProvesNot(t *testing.T) {
	for _, l := range [][]api.Change{
		nil, {swap(0)}, {swap(1)}, {swap(3)}, {swap(2), insert(0, 'x')}, {swap(2), swap(2)}, {swap(4)}, {swap(-1)}, {swap(2), insert(4, 'a')},
		{replace(2, 't')}, {remove(2)}, {insert(2, 't')}, {{Kind: api.ChangeSwap, At: 2, Byte: 1}}, {{At: 2}}, {remove(2), insert(3, 'r')},
	} {
		if distance.Proves("marta", "matra", l) {
			t.Errorf("%v proves matra", l)
		}
	}
	for _, l := range [][]api.Change{{swap(2)}, {replace(2, 't'), replace(3, 'r')}, {remove(2), insert(4, 'r')}} {
		if !distance.Proves("marta", "matra", l) || distance.Proves("marta", "marta", l) || distance.Proves("matra", "marta", list(swap(3))) {
			t.Errorf("Proves of %v", l)
		}
	}
	long := strings.Repeat("a", api.MaxText+1)
	if distance.Proves(long, long, nil) || distance.Proves(long, long[1:], list(remove(0))) || distance.Proves("a", long, nil) {
		t.Error("Proves of a text beyond the limit")
	}
}

// P7.2: the text of Apply at the limit and beyond it; no other error comes before this one.
func TestApplyLimit(t *testing.T) {
	most, more := strings.Repeat("a", api.MaxText), strings.Repeat("a", api.MaxText+1)
	expectApply(t, most, most)
	expectApply(t, most, most[1:], remove(0))
	expectApply(t, most, most+"b", insert(api.MaxText, 'b'))
	expectError(t, more, api.ErrLimit)
	expectError(t, more, api.ErrLimit, remove(0))
	expectError(t, more, api.ErrLimit, remove(0), remove(0))
	expectError(t, more, api.ErrLimit, remove(-1))
	expectError(t, more, api.ErrLimit, api.Change{})
	expectError(t, more, api.ErrLimit, inserts(2*api.MaxText, 0)...)
	expectError(t, strings.Repeat("a", 1<<16), api.ErrLimit)
}

// P7.2: results at the limit and beyond it; the length at the end counts, and every other error comes before.
func TestResultLimit(t *testing.T) {
	most := strings.Repeat("a", api.MaxText)
	for n, a := range map[int]string{128: "", 127: "b", 65: most[1:], 64: most} {
		for _, at := range []int{0, len(a)} {
			full := inserts(n, at)
			if got, e := distance.Apply(a, full); len(got) != 2*api.MaxText || e != api.OK || !distance.Proves(a, got, full) {
				t.Errorf("Apply of %d bytes and %d insertions is %q, %d", len(a), n, got, e)
			}
			expectError(t, a, api.ErrLimit, inserts(n+1, at)...)
			expectError(t, a, api.ErrLimit, inserts(n+1000, at)...)
		}
	}
	// One byte less, in front and behind.
	for _, l := range [][]api.Change{append(inserts(65, 0), remove(63)), append(list(remove(0)), inserts(65, 64)...), append(inserts(65, 0), remove(0))} {
		if got, e := distance.Apply(most, l); len(got) != 128 || e != api.OK {
			t.Errorf("Apply of 64 bytes and %d changes is %q, %d", len(l), got, e)
		}
	}
	for _, last := range []api.Change{replace(63, 'b'), swap(62), insert(64, 'b')} {
		expectError(t, most, api.ErrLimit, append(inserts(65, 0), last)...)
	}
	expectError(t, most, api.ErrRange, append(inserts(65, 0), remove(64))...)
	expectError(t, most, api.ErrRange, append(inserts(65, 0), api.Change{Kind: api.ChangeInsert, At: 64, Byte: 256})...)
	expectError(t, most, api.ErrOrder, append(inserts(65, 1), insert(0, 'b'))...)
}

// P7.2: a change must not begin one place too early behind any other one.
func TestOrder(t *testing.T) {
	const a = "abcdefgh"
	for _, first := range kinds {
		for _, second := range kinds {
			at := 3 + size(first)
			if _, e := distance.Apply(a, list(change(first, 3), change(second, at))); e != api.OK {
				t.Errorf("kinds %d and %d side by side: %d", first, second, e)
			}
			for early := 0; early < at; early++ {
				expectError(t, a, api.ErrOrder, change(first, 3), change(second, early))
				expectError(t, a, api.ErrOrder, change(first, 3), change(second, early), insert(8, 'x'))
				expectError(t, a, api.ErrOrder, insert(0, 'x'), change(first, 3), change(second, early))
			}
		}
	}
}

// P7.2: each change is compared with the one before it, also behind an insertion.
func TestOrderOfThree(t *testing.T) {
	const a = "abcdefgh"
	for _, l := range [][]api.Change{
		{insert(2, 'x'), insert(1, 'x'), insert(3, 'x')}, {insert(2, 'x'), insert(3, 'x'), insert(2, 'x')}, {remove(1), insert(2, 'x'), remove(1)},
		{swap(1), insert(3, 'x'), remove(2)}, {swap(1), insert(2, 'x'), remove(3)}, {insert(1, 'x'), swap(1), insert(2, 'x')},
	} {
		expectError(t, a, api.ErrOrder, l...)
	}
	expectApply(t, a, "acbxxdefgh", swap(1), insert(3, 'x'), insert(3, 'x'))
}

// P7.2: a list that is not ordered is ErrOrder, whatever else is wrong with it; a kind that is none touches nothing.
func TestOrderBeforeRange(t *testing.T) {
	const a = "abcdefgh"
	expectError(t, a, api.ErrOrder, remove(-1), remove(-1))
	expectError(t, a, api.ErrOrder, swap(-2), remove(-1))
	expectError(t, a, api.ErrRange, swap(-2), remove(0))
	expectError(t, a, api.ErrOrder, remove(9), remove(8))
	expectError(t, a, api.ErrRange, remove(8), remove(9))
	expectError(t, a, api.ErrOrder, insert(9, 'x'), insert(8, 'x'))
	expectError(t, a, api.ErrRange, insert(8, 'x'), insert(9, 'x'))
	expectError(t, a, api.ErrOrder, api.Change{Kind: api.ChangeInsert, At: 3, Byte: 256}, insert(2, 'x'))
	expectError(t, a, api.ErrOrder, api.Change{Kind: api.ChangeSwap, At: 3, Byte: 1}, insert(4, 'x'))
	for _, kind := range noKinds {
		expectError(t, a, api.ErrRange, api.Change{Kind: kind, At: 3}, insert(3, 'x'))
		expectError(t, a, api.ErrOrder, api.Change{Kind: kind, At: 3}, insert(2, 'x'))
		expectError(t, a, api.ErrRange, insert(3, 'x'), api.Change{Kind: kind, At: 3})
		expectError(t, a, api.ErrOrder, remove(3), api.Change{Kind: kind, At: 3})
		expectError(t, a, api.ErrRange, remove(3), api.Change{Kind: kind, At: 4})
	}
}

// P7.2: places at the ends of what an int holds are compared as numbers.
func TestOrderOfFarPlaces(t *testing.T) {
	for _, first := range kinds {
		for _, at := range far {
			for _, second := range kinds {
				for _, next := range far {
					want := api.ErrOrder
					// As floats, neighbours at the ends are equal; then the numbers are near enough to be compared without a sum.
					if next >= at && (float64(next)-float64(at) > 4096 || next-at >= size(first)) {
						want = api.ErrRange
					}
					expectError(t, "abcd", want, change(first, at), change(second, next))
				}
			}
		}
	}
}

// P7.2: places before the text, at its end and behind it, for each kind.
func TestRangeOfPlaces(t *testing.T) {
	for n := range 6 {
		a := "abcde"[:n]
		for _, kind := range kinds {
			for at := -3; at < n+4; at++ {
				if at >= 0 && at+size(kind) <= n {
					if _, e := distance.Apply(a, list(change(kind, at))); e != api.OK {
						t.Errorf("Apply(%q) of kind %d at %d: %d", a, kind, at, e)
					}
					continue
				}
				expectError(t, a, api.ErrRange, change(kind, at))
			}
			for _, at := range far {
				expectError(t, a, api.ErrRange, change(kind, at))
			}
		}
	}
	most := allBytes(0)
	expectApply(t, most, most+"x", insert(64, 'x'))
	expectApply(t, most, most[:63], remove(63))
	expectApply(t, most, most[:63]+"x", replace(63, 'x'))
	expectApply(t, most, most[:62]+most[63:]+most[62:63], swap(62))
	for _, c := range list(insert(65, 'x'), remove(64), replace(64, 'x'), swap(63)) {
		expectError(t, most, api.ErrRange, c)
	}
}

// P7.2: a kind that is none, at every place and with every byte.
func TestRangeOfKinds(t *testing.T) {
	for _, kind := range noKinds {
		for at := -1; at < 6; at++ {
			for _, c := range []int{-1, 0, 1, 'x', 255, 256} {
				expectError(t, "abcd", api.ErrRange, api.Change{Kind: kind, At: at, Byte: c})
			}
		}
		expectError(t, "", api.ErrRange, api.Change{Kind: kind})
		expectError(t, "abcd", api.ErrRange, remove(0), api.Change{Kind: kind, At: 2}, remove(3))
	}
}

// P7.2: bytes below 0, above 255, and not 0 where they must be 0.
func TestRangeOfBytes(t *testing.T) {
	for c := range 256 {
		expectApply(t, "abcd", "ab"+one(c)+"cd", insert(2, byte(c)))
		expectApply(t, "abcd", "abcd"+one(c), insert(4, byte(c)))
		expectApply(t, "abcd", "ab"+one(c)+"d", replace(2, byte(c)))
		if c != 0 {
			expectError(t, "abcd", api.ErrRange, api.Change{Kind: api.ChangeDelete, At: 2, Byte: c})
			expectError(t, "abcd", api.ErrRange, api.Change{Kind: api.ChangeSwap, At: 2, Byte: c})
		}
	}
	for _, kind := range kinds {
		for _, c := range far {
			expectError(t, "abcd", api.ErrRange, api.Change{Kind: kind, At: 2, Byte: c})
			expectError(t, "abcd", api.ErrRange, remove(0), api.Change{Kind: kind, At: 2, Byte: c})
		}
	}
}

// P7.2: every change of a list is looked at, the first, a middle one and the last.
func TestRangeInLists(t *testing.T) {
	good := list(insert(0, 'x'), remove(0), replace(1, 'x'), swap(2), insert(4, 'x'))
	expectApply(t, "abcd", "xxdcx", good...)
	for i := range good {
		bad := slices.Clone(good)
		bad[i].Byte += 256
		expectError(t, "abcd", api.ErrRange, bad...)
		bad[i] = api.Change{Kind: 5, At: good[i].At}
		expectError(t, "abcd", api.ErrRange, bad...)
	}
	expectError(t, "abcd", api.ErrRange, append(good, insert(5, 'x'))...)
	expectError(t, "abcd", api.ErrRange, append(list(insert(-1, 'x')), good...)...)
}
