package name_test

import (
	"fmt"
	"reflect"
	"slices"
	"strings"
	"testing"

	"recordlink/api"
	"recordlink/name"
)

// common returns valid rules that most tests use.
func common() api.Rules {
	return api.Rules{
		Titles:    []string{"dr", "mr", "prof"},
		Nicknames: []api.Pair{{From: "bill", To: "william"}, {From: "bob", To: "robert"}, {From: "rob", To: "robert"}},
		Streets:   []api.Pair{{From: "av", To: "avenue"}, {From: "st", To: "street"}},
	}
}

// copied returns rules that share no memory with others.
func copied(r api.Rules) api.Rules {
	return api.Rules{Titles: slices.Clone(r.Titles), Nicknames: slices.Clone(r.Nicknames), Streets: slices.Clone(r.Streets)}
}

// letters returns a token with this many bytes.
func letters(n int) string { return strings.Repeat("x", n) }

// titles returns this many ascending titles.
func titles(n int) []string {
	var list []string
	for i := range n {
		list = append(list, "t"+string([]byte{byte('a' + i/26), byte('a' + i%26)}))
	}
	return list
}

// pairs returns this many replacements that are ascending by From.
func pairs(n int) []api.Pair {
	var list []api.Pair
	for _, from := range titles(n) {
		list = append(list, api.Pair{From: "from" + from, To: "to"})
	}
	return list
}

// notTokens returns texts that are no tokens.
func notTokens() []string {
	return []string{"", " ", "A", "Dr", "a b", " a", "a ", "a1", "1", "a'b", "a-b", "a.", "`", "{", "\xc3\xa4", "a\x00", "\xff", letters(api.MaxText + 1), letters(1 << 16)}
}

// expectCheck checks what Check says of rules.
func expectCheck(t *testing.T, r api.Rules, want api.Errno) {
	t.Helper()
	before := copied(r)
	if got := name.Check(r); got != want {
		t.Errorf("Check(%.200q) is %d, not %d", fmt.Sprint(r), got, want)
	}
	if !reflect.DeepEqual(before, r) {
		t.Errorf("Check has changed its argument to %v", r)
	}
}

// P2.1: rules that are valid, with lists that are empty, short and as long as they may be.
func TestCheckValid(t *testing.T) {
	for _, r := range []api.Rules{
		{},
		{Titles: []string{}, Nicknames: []api.Pair{}, Streets: []api.Pair{}},
		common(),
		{Titles: common().Titles},
		{Nicknames: common().Nicknames},
		{Streets: common().Streets},
		{Titles: titles(api.MaxRules), Nicknames: pairs(api.MaxRules), Streets: pairs(api.MaxRules)},
		{Titles: []string{"a", "aa", "ab", "b", "z"}},
		{Titles: []string{"a", letters(api.MaxText), "z"}},
		{Nicknames: []api.Pair{{From: "a", To: letters(api.MaxText)}, {From: letters(api.MaxText - 1), To: "b"}}},
		{Streets: []api.Pair{{From: letters(api.MaxText), To: "a"}}},
	} {
		expectCheck(t, r, api.OK)
	}
}

// P2.1: only the Froms of a list are ascending and differ; its Tos need not.
func TestCheckTos(t *testing.T) {
	for _, list := range [][]api.Pair{
		{{From: "a", To: "z"}, {From: "b", To: "z"}},
		{{From: "a", To: "z"}, {From: "b", To: "y"}, {From: "c", To: "x"}},
		{{From: "a", To: "aa"}, {From: "aaa", To: "aaaa"}},
	} {
		expectCheck(t, api.Rules{Nicknames: list}, api.OK)
		expectCheck(t, api.Rules{Streets: list}, api.OK)
	}
}

// P2.1: a list with too many entries is an error before all others, even if it, or another list, is not valid in another respect.
func TestCheckLimit(t *testing.T) {
	wrong := make([]api.Pair, api.MaxRules+1)
	for _, r := range []api.Rules{
		{Titles: titles(api.MaxRules + 1)},
		{Nicknames: pairs(api.MaxRules + 1)},
		{Streets: pairs(api.MaxRules + 1)},
		{Titles: make([]string, api.MaxRules+1)},
		{Nicknames: wrong},
		{Streets: wrong},
		{Titles: make([]string, 1<<16)},
		{Titles: []string{"A"}, Nicknames: pairs(api.MaxRules + 1)},
		{Titles: []string{"b", "a"}, Streets: pairs(api.MaxRules + 1)},
		{Titles: titles(api.MaxRules + 1), Nicknames: []api.Pair{{From: "a", To: "a"}}},
		{Nicknames: []api.Pair{{From: "a", To: ""}}, Streets: pairs(api.MaxRules + 1)},
		{Titles: []string{"a"}, Nicknames: []api.Pair{{From: "b", To: "a"}}, Streets: pairs(api.MaxRules + 1)},
	} {
		expectCheck(t, r, api.ErrLimit)
	}
}

// P2.1: an entry that is no token, at each place of each list; its length is no error of the limits of lists.
func TestCheckTokens(t *testing.T) {
	for _, wrong := range notTokens() {
		for i := range common().Titles {
			r := common()
			r.Titles[i] = wrong
			expectCheck(t, r, api.ErrRule)
		}
		for i := range common().Nicknames {
			from, to := common(), common()
			from.Nicknames[i].From, to.Nicknames[i].To = wrong, wrong
			expectCheck(t, from, api.ErrRule)
			expectCheck(t, to, api.ErrRule)
		}
		for i := range common().Streets {
			from, to := common(), common()
			from.Streets[i].From, to.Streets[i].To = wrong, wrong
			expectCheck(t, from, api.ErrRule)
			expectCheck(t, to, api.ErrRule)
		}
	}
}

// P2.1: a text that is no token is an error wherever it would stand in the order.
func TestCheckTokensInOrder(t *testing.T) {
	for _, wrong := range notTokens() {
		expectCheck(t, api.Rules{Titles: []string{wrong}}, api.ErrRule)
		expectCheck(t, api.Rules{Nicknames: []api.Pair{{From: wrong, To: "a"}}}, api.ErrRule)
		expectCheck(t, api.Rules{Nicknames: []api.Pair{{From: "a", To: wrong}}}, api.ErrRule)
		expectCheck(t, api.Rules{Streets: []api.Pair{{From: wrong, To: "a"}}}, api.ErrRule)
		expectCheck(t, api.Rules{Streets: []api.Pair{{From: "a", To: wrong}}}, api.ErrRule)
	}
}

// P2.1: each list is strictly ascending, byte by byte.
func TestCheckOrder(t *testing.T) {
	for _, list := range [][]string{
		{"b", "a"},
		{"a", "a"},
		{"aa", "a"},
		{"b", "aa"},
		{"a", "b", "b"},
		{"a", "c", "b"},
		{"a", "a", "b"},
		{"c", "a", "b"},
	} {
		var replaced []api.Pair
		for _, from := range list {
			replaced = append(replaced, api.Pair{From: from, To: "z" + letters(len(replaced)+1)})
		}
		expectCheck(t, api.Rules{Titles: list}, api.ErrRule)
		expectCheck(t, api.Rules{Nicknames: replaced}, api.ErrRule)
		expectCheck(t, api.Rules{Streets: replaced}, api.ErrRule)
	}
}

// P2.1: no To of a list is a From of the same list: that of its own rule, of an earlier one, or of a later one.
func TestCheckChains(t *testing.T) {
	for _, list := range [][]api.Pair{
		{{From: "a", To: "a"}},
		{{From: "a", To: "b"}, {From: "b", To: "c"}},
		{{From: "b", To: "c"}, {From: "d", To: "b"}},
		{{From: "a", To: "b"}, {From: "b", To: "a"}},
		{{From: "a", To: "x"}, {From: "b", To: "x"}, {From: "c", To: "a"}},
		{{From: "a", To: "c"}, {From: "b", To: "x"}, {From: "c", To: "x"}},
	} {
		expectCheck(t, api.Rules{Nicknames: list}, api.ErrRule)
		expectCheck(t, api.Rules{Streets: list}, api.ErrRule)
	}
	crossed := api.Rules{Nicknames: []api.Pair{{From: "a", To: "b"}}, Streets: []api.Pair{{From: "b", To: "a"}}}
	expectCheck(t, crossed, api.OK)
}

// P2.1: no nickname is replaced by a title; a title may be a From, and the To of a street.
func TestCheckTitles(t *testing.T) {
	list := []string{"a", "b", "c"}
	for _, title := range list {
		expectCheck(t, api.Rules{Titles: list, Nicknames: []api.Pair{{From: "x", To: title}}}, api.ErrRule)
		expectCheck(t, api.Rules{Titles: list, Nicknames: []api.Pair{{From: "x", To: "z"}, {From: "y", To: title}}}, api.ErrRule)
		expectCheck(t, api.Rules{Titles: list, Nicknames: []api.Pair{{From: title, To: "x"}}}, api.OK)
		expectCheck(t, api.Rules{Titles: list, Streets: []api.Pair{{From: "x", To: title}}}, api.OK)
		expectCheck(t, api.Rules{Titles: list, Streets: []api.Pair{{From: title, To: "x"}}}, api.OK)
	}
}

// expectCanonical checks what a token is replaced by.
func expectCanonical(t *testing.T, r api.Rules, token, want string) {
	t.Helper()
	before := copied(r)
	if got := name.Canonical(r, token); got != want {
		t.Errorf("Canonical of %q is %q, not %q", token, got, want)
	}
	if !reflect.DeepEqual(before, r) {
		t.Errorf("Canonical has changed its argument to %v", r)
	}
}

// P2.1: Canonical replaces the Froms of nicknames, and nothing else.
func TestCanonical(t *testing.T) {
	for token, want := range map[string]string{"bill": "william", "bob": "robert", "rob": "robert"} {
		expectCanonical(t, common(), token, want)
	}
	for _, token := range []string{"", "robert", "dr", "av", "st", "street", "Bob", " bob", "bob ", "bo", "bobb", "bob smith", "b\xff", letters(1000)} {
		expectCanonical(t, common(), token, token)
		expectCanonical(t, api.Rules{}, token, token)
	}
	for i, p := range pairs(api.MaxRules) {
		r := api.Rules{Nicknames: pairs(api.MaxRules)}
		r.Nicknames[i].To = "this"
		expectCanonical(t, r, p.From, "this")
	}
}

// P2.1: Canonical looks at rules that are not valid as they are; the first rule counts, once.
func TestCanonicalInvalid(t *testing.T) {
	r := api.Rules{
		Titles: []string{"m"},
		Nicknames: []api.Pair{
			{From: "m", To: "first"}, {From: "a", To: "m"}, {From: "z", To: "a"}, {From: "m", To: "second"},
			{From: "b", To: "b"}, {From: "", To: "empty"}, {From: "none", To: ""}, {From: "A b\xff", To: "Long One"},
		},
	}
	for token, want := range map[string]string{
		"m": "first", "a": "m", "z": "a", "b": "b", "": "empty", "none": "", "A b\xff": "Long One", "first": "first", "y": "y",
	} {
		expectCanonical(t, r, token, want)
	}
	many := api.Rules{Nicknames: pairs(600)}
	many.Nicknames[599].To = "last"
	expectCanonical(t, many, many.Nicknames[599].From, "last")
	expectCanonical(t, many, many.Nicknames[0].From, "to")
}

// expectDropped checks whether a token is dropped.
func expectDropped(t *testing.T, r api.Rules, token string, want bool) {
	t.Helper()
	before := copied(r)
	if got := name.Dropped(r, token); got != want {
		t.Errorf("Dropped of %q is %v", token, got)
	}
	if !reflect.DeepEqual(before, r) {
		t.Errorf("Dropped has changed its argument to %v", r)
	}
}

// P2.1: Dropped tells titles from all other texts, whether the list is valid or not.
func TestDropped(t *testing.T) {
	for _, token := range common().Titles {
		expectDropped(t, common(), token, true)
		expectDropped(t, api.Rules{}, token, false)
	}
	for _, token := range []string{"", "d", "drr", "Dr", "dr ", " dr", "dr mr", "bob", "robert", "st", "street"} {
		expectDropped(t, common(), token, false)
	}
	wrong := api.Rules{Titles: []string{"z", "a", "m", "a", "", "B c\xff"}}
	for _, token := range wrong.Titles {
		expectDropped(t, wrong, token, true)
	}
	expectDropped(t, wrong, "b", false)
	many := api.Rules{Titles: titles(600)}
	expectDropped(t, many, many.Titles[599], true)
}

// expectNormal checks the normal form of a name, and that it is one.
func expectNormal(t *testing.T, r api.Rules, s, want string) {
	t.Helper()
	before := copied(r)
	if got, e := name.Normalise(r, s); e != api.OK || got != want {
		t.Errorf("Normalise(%q) is %q, %d, not %q", s, got, e, want)
	}
	if name.Normal(r, s) != (s == want) {
		t.Errorf("Normal(%q) is %v", s, s != want)
	}
	if again, e := name.Normalise(r, want); e != api.OK || again != want || !name.Normal(r, want) {
		t.Errorf("the normal form %q has the normal form %q, %d", want, again, e)
	}
	if !reflect.DeepEqual(before, r) {
		t.Errorf("Normalise has changed its argument to %v", r)
	}
}

// expectError checks the error of a name, and that it is no normal form.
func expectError(t *testing.T, r api.Rules, s string, want api.Errno) {
	t.Helper()
	if got, e := name.Normalise(r, s); e != want || got != "" {
		t.Errorf("Normalise(%q) is %q, %d, not %d", s, got, e, want)
	}
	if name.Normal(r, s) {
		t.Errorf("%q is not normal", s)
	}
}

// P2.2: the examples of the document.
func TestNormaliseExamples(t *testing.T) {
	r := api.Rules{Titles: []string{"dr"}, Nicknames: []api.Pair{{From: "bob", To: "robert"}}}
	expectNormal(t, r, "Dr. Bob  Smith 2", "robert smith")
	expectNormal(t, r, "Dr. Bob Smith", "robert smith")
}

// P2.2: names are folded, and their tokens keep their order and their number.
func TestNormaliseFolds(t *testing.T) {
	for s, want := range map[string]string{
		"":                        "",
		" -. ":                    "",
		"smith":                   "smith",
		"O'Neill-M\xc3\xbcller":   "oneill muller",
		"Strau\xc3\x9f, Anna":     "strauss anna",
		"  zoe   ADAM  ":          "zoe adam",
		"anna anna":               "anna anna",
		"b a b":                   "b a b",
		"\xc3\x97":                "",
		strings.Repeat("X", 64):   letters(64),
		"A-B.C_D/E F":             "a b c d e f",
		strings.Repeat(" ", 64):   "",
		strings.Repeat("9", 64):   "",
		strings.Repeat(". ", 32):  "",
		strings.Repeat("1a", 32):  strings.Repeat("a", 32),
		"\xc3\x9e\xc3\x93r 4 Jon": "thor jon",
	} {
		expectNormal(t, common(), s, want)
		expectNormal(t, api.Rules{}, s, want)
	}
}

// P2.2: all digits go, and with them the tokens that have nothing else.
func TestNormaliseDigits(t *testing.T) {
	for s, want := range map[string]string{
		"0123456789":          "",
		"1 2 3":               "",
		"smith2":              "smith",
		"2smith":              "smith",
		"s1m2i3t4h":           "smith",
		"smith 2":             "smith",
		"2 smith":             "smith",
		"anna 3 smith":        "anna smith",
		"7a 8 b9":             "a b",
		"1 2 3 4 5 6 7 8 a 9": "a",
	} {
		expectNormal(t, common(), s, want)
	}
}

// P2.2: titles are dropped at each place, after the digits are gone; parts of other tokens are not.
func TestNormaliseTitles(t *testing.T) {
	for s, want := range map[string]string{
		"dr":                   "",
		"Prof. Dr.":            "",
		"mr smith":             "smith",
		"smith mr":             "smith",
		"anna mr smith":        "anna smith",
		"dr anna prof smith":   "anna smith",
		"dr dr smith":          "smith",
		"dr2 smith":            "smith",
		"d1r smith":            "smith",
		"D'r smith":            "smith",
		"drr drsmith ddr":      "drr drsmith ddr",
		"d r":                  "d r",
		"st av street avenue":  "st av street avenue",
		"st. bob":              "st robert",
		"avenue prof2 9 bob 1": "avenue robert",
	} {
		expectNormal(t, common(), s, want)
	}
}

// P2.2: nicknames are replaced at each place, after the digits are gone; parts of other tokens are not.
func TestNormaliseNicknames(t *testing.T) {
	for s, want := range map[string]string{
		"bob":                 "robert",
		"Bob Rob Bill":        "robert robert william",
		"smith bob":           "smith robert",
		"anna bob smith":      "anna robert smith",
		"bob1 smith":          "robert smith",
		"B0ob smith":          "robert smith",
		"B'ob smith":          "robert smith",
		"bobb abob bo b":      "bobb abob bo b",
		"robert":              "robert",
		"Mr. Bill Roberts 3.": "william roberts",
	} {
		expectNormal(t, common(), s, want)
	}
}

// P2.2: a title that is a nickname too is dropped, and not replaced.
func TestNormaliseTitleFirst(t *testing.T) {
	r := api.Rules{Titles: []string{"doc"}, Nicknames: []api.Pair{{From: "dick", To: "richard"}, {From: "doc", To: "doctor"}}}
	expectNormal(t, r, "Doc Dick Doctor", "richard doctor")
}

// P2.2: the tokens that are left count, not those that are dropped.
func TestNormaliseTokens(t *testing.T) {
	r := common()
	expectNormal(t, r, "a b c d e f", "a b c d e f")
	expectNormal(t, r, "dr a mr b prof c 1 d 22 e 333 f 4", "a b c d e f")
	expectNormal(t, r, "Bob Bob Bob Bob Bob Bob", "robert robert robert robert robert robert")
	expectNormal(t, r, strings.Repeat("dr ", 21), "")
	expectError(t, r, "a b c d e f g", api.ErrLimit)
	expectError(t, r, "dr a b c d e f g", api.ErrLimit)
	expectError(t, r, "1 a 2 b c d e f g 3", api.ErrLimit)
	expectError(t, r, "a a a a a a a", api.ErrLimit)
	expectError(t, r, strings.Repeat("a ", 32), api.ErrLimit)
	expectError(t, api.Rules{}, "dr a b c d e f", api.ErrLimit)
}

// P2.2: the length of the result counts, not that of the name.
func TestNormaliseLength(t *testing.T) {
	with := func(to int) api.Rules { return api.Rules{Nicknames: []api.Pair{{From: "n", To: letters(to)}}} }
	expectNormal(t, with(api.MaxText), "n", letters(api.MaxText))
	expectNormal(t, with(api.MaxText-2), "N b", letters(api.MaxText-2)+" b")
	expectNormal(t, with(api.MaxText-2), "b N", "b "+letters(api.MaxText-2))
	expectError(t, with(api.MaxText-1), "N b", api.ErrLimit)
	expectError(t, with(api.MaxText-1), "b N", api.ErrLimit)
	expectError(t, with(api.MaxText), "n n", api.ErrLimit)
	expectError(t, with(11), "n n n n n n", api.ErrLimit)
	expectNormal(t, with(10), "n n n n n", strings.Repeat(letters(10)+" ", 4)+letters(10))
	shorter := api.Rules{Nicknames: []api.Pair{{From: letters(60), To: "short"}}}
	expectNormal(t, shorter, letters(60)+" b", "short b")
}

// P2.2: a name that is no valid text, even where all of it would be dropped.
func TestNormaliseInvalidText(t *testing.T) {
	for _, s := range []string{
		"a\tb", "\x00", "\x7f", "\x80", "\xc3", "\xc3A", "\xc4\x80", "smith\n", "\xff",
		letters(api.MaxText + 1), letters(1 << 16), strings.Repeat(" ", api.MaxText+1), strings.Repeat("1", api.MaxText+1),
	} {
		expectError(t, common(), s, api.ErrText)
		expectError(t, api.Rules{}, s, api.ErrText)
	}
}

// P2.2: errors of the rules come first, then that of the text, then those of the limits.
func TestNormaliseErrors(t *testing.T) {
	long := api.Rules{Titles: titles(api.MaxRules + 1)}
	wrong := api.Rules{Titles: []string{"b", "a"}}
	seven := "a b c d e f g"
	for _, s := range []string{"", "smith", "a\tb", seven, seven + "\t", letters(api.MaxText + 1)} {
		expectError(t, long, s, api.ErrLimit)
		expectError(t, wrong, s, api.ErrRule)
		expectError(t, api.Rules{Titles: make([]string, api.MaxRules+1), Streets: []api.Pair{{}}}, s, api.ErrLimit)
		expectError(t, api.Rules{Nicknames: []api.Pair{{From: "a", To: "a"}}}, s, api.ErrRule)
		expectError(t, api.Rules{Streets: []api.Pair{{From: "st", To: "st"}}}, s, api.ErrRule)
	}
	expectError(t, common(), seven+"\t", api.ErrText)
	expectError(t, common(), seven+strings.Repeat(" ", api.MaxText), api.ErrText)
	expectError(t, common(), seven, api.ErrLimit)
}

// P2.2: Normal tells what Normalise leaves as it is.
func TestNormal(t *testing.T) {
	for _, s := range []string{"", "a", "robert smith", "a b c d e f", letters(api.MaxText), "st"} {
		if !name.Normal(common(), s) {
			t.Errorf("%q is normal", s)
		}
	}
	for _, s := range []string{
		" ", "A", " a", "a ", "a  b", "a-b", "a'b", "smith 2", "smith2", "2", "dr", "dr smith", "smith dr", "bob", "bob smith",
		"\xc3\xa4", "a\tb", "\x00", "a b c d e f g", letters(api.MaxText + 1),
	} {
		if name.Normal(common(), s) {
			t.Errorf("%q is not normal", s)
		}
	}
}

// P2.2, consequences: names of many forms lead to normal forms that stay as they are, and are not too long.
func TestNormaliseTwice(t *testing.T) {
	r := common()
	r.Nicknames = append(r.Nicknames, api.Pair{From: "tiny", To: letters(api.MaxText/4 - 1)})
	parts := []string{"", "Dr", "bob", "Tiny", "7", "rob1", "Ann", " ", "-", "'", "\xc3\xa4", "\xc3\x97", "x"}
	for _, a := range parts {
		for _, b := range parts {
			for _, c := range parts {
				for _, d := range parts {
					checkTwice(t, r, a+b+c+d)
					checkTwice(t, r, a+" "+b+"."+c+" "+d)
				}
			}
		}
	}
}

// checkTwice checks the consequences for a name that is a valid text.
func checkTwice(t *testing.T, r api.Rules, s string) {
	t.Helper()
	normal, e := name.Normalise(r, s)
	if e != api.OK {
		t.Fatalf("%q: %d", s, e)
	}
	if again, e := name.Normalise(r, normal); e != api.OK || again != normal || !name.Normal(r, normal) {
		t.Errorf("Normalise(%q) is %q, and this becomes %q, %d", s, normal, again, e)
	}
	if len(normal) > api.MaxText || strings.Trim(normal, " ") != normal || strings.Contains(normal, "  ") {
		t.Errorf("Normalise(%q) is %q", s, normal)
	}
}

// P2.2, consequences: case, titles, digits and separators make no difference.
func TestNormaliseAlike(t *testing.T) {
	for _, s := range []string{
		"robert smith", "ROBERT SMITH", "Robert-Smith", " Robert  Smith ", "Dr Robert Smith", "Robert Smith, Prof. Dr.",
		"Robert Smith 2", "R0obert Sm1ith", "Mr. Bob Smith", "rob_smith", "9 Rob/Smith 9 mr",
	} {
		expectNormal(t, common(), s, "robert smith")
	}
}
