package address_test

import (
	"reflect"
	"slices"
	"strconv"
	"strings"
	"testing"

	"recordlink/address"
	"recordlink/api"
	"recordlink/text"
)

// common returns valid rules that most tests use.
func common() api.Rules {
	return api.Rules{
		Titles:    []string{"dr"},
		Nicknames: []api.Pair{{From: "bob", To: "robert"}},
		Streets:   []api.Pair{{From: "av", To: "avenue"}, {From: "rd", To: "road"}, {From: "st", To: "street"}, {From: "str", To: "street"}},
	}
}

// streets returns rules that replace one word alone.
func streets(from, to string) api.Rules {
	return api.Rules{Streets: []api.Pair{{From: from, To: to}}}
}

// copied returns rules that share no memory with others.
func copied(r api.Rules) api.Rules {
	return api.Rules{Titles: slices.Clone(r.Titles), Nicknames: slices.Clone(r.Nicknames), Streets: slices.Clone(r.Streets)}
}

// letters returns a token with this many bytes.
func letters(n int) string { return strings.Repeat("x", n) }

// many returns this many replacements that are ascending by From.
func many(n int) []api.Pair {
	var list []api.Pair
	for i := range n {
		list = append(list, api.Pair{From: "from" + string([]byte{byte('a' + i/26), byte('a' + i%26)}), To: "to"})
	}
	return list
}

// notTexts returns texts that are not valid.
func notTexts() []string {
	return []string{
		"1\ta", "\x00", "\x1f", "\x7f", "\x80", "\xc3", "\xc3A", "\xc3\xc0", "\xc4\x80", "main\n", "\xff", "12\x00",
		letters(api.MaxText + 1), strings.Repeat("1", api.MaxText+1), strings.Repeat(" ", api.MaxText+1), strings.Repeat("0", 1<<16),
	}
}

// expectNormal checks the normal form of an address, and that it is one.
func expectNormal(t *testing.T, r api.Rules, s, want string) {
	t.Helper()
	before := copied(r)
	if got, e := address.Normalise(r, s); e != api.OK || got != want {
		t.Errorf("Normalise(%q) is %q, %d, not %q", s, got, e, want)
	}
	if address.Normal(r, s) != (s == want) {
		t.Errorf("Normal(%q) is %v", s, s != want)
	}
	if again, e := address.Normalise(r, want); e != api.OK || again != want || !address.Normal(r, want) {
		t.Errorf("the normal form %q has the normal form %q, %d", want, again, e)
	}
	if !reflect.DeepEqual(before, r) {
		t.Errorf("Normalise has changed its argument to %v", r)
	}
}

// expectError checks the error of an address, and that it is no normal form.
func expectError(t *testing.T, r api.Rules, s string, want api.Errno) {
	t.Helper()
	before := copied(r)
	if got, e := address.Normalise(r, s); e != want || got != "" {
		t.Errorf("Normalise(%q) is %q, %d, not %d", s, got, e, want)
	}
	if address.Normal(r, s) {
		t.Errorf("%q is not normal", s)
	}
	if !reflect.DeepEqual(before, r) {
		t.Errorf("Normalise has changed its argument to %v", r)
	}
}

// P4.1: the examples of the document.
func TestNormaliseExamples(t *testing.T) {
	r := streets("st", "street")
	expectNormal(t, r, "12 Main St.", "main street 12")
	expectNormal(t, r, "Main St 12", "main street 12")
	expectNormal(t, r, "main street 12", "main street 12")
}

// P4.1: addresses are folded, and nothing is dropped that is a token.
func TestNormaliseFolds(t *testing.T) {
	for s, want := range map[string]string{
		"":                               "",
		" -. ":                           "",
		"main":                           "main",
		"12":                             "12",
		"O'Neill-Stra\xc3\x9fe":          "oneill strasse",
		"  zoe   ADAM  ":                 "zoe adam",
		"anna anna":                      "anna anna",
		"b a b":                          "b a b",
		"\xc3\x97":                       "",
		"M\xc3\xbchlgasse 3/4":           "muhlgasse 3 4",
		"A-B.C_D/E F":                    "a b c d e f",
		"\xc3\x9ering 1'2":               "thring 12",
		strings.Repeat("X", 64):          letters(64),
		strings.Repeat(" ", 64):          "",
		strings.Repeat("9", 64):          strings.Repeat("9", 64),
		strings.Repeat("a1", 32):         strings.Repeat("a1", 32),
		strings.Repeat("\xc3\xa4", 32):   strings.Repeat("a", 32),
		strings.Repeat(". ", 32):         "",
		"dr bob":                         "dr bob",
		"Dr. Bob Lane 5":                 "dr bob lane 5",
		strings.Repeat("1", 10) + ",A'B": "ab " + strings.Repeat("1", 10),
	} {
		expectNormal(t, common(), s, want)
		expectNormal(t, api.Rules{}, s, want)
	}
}

// P4.1: the zeros in front of a number go, but one stays where a letter or nothing follows.
func TestNormaliseZeros(t *testing.T) {
	for s, want := range map[string]string{
		"0":                           "0",
		"00":                          "0",
		"000":                         "0",
		strings.Repeat("0", 64):       "0",
		"b":                           "b",
		"0b":                          "0b",
		"00b":                         "0b",
		"000b":                        "0b",
		"00bc1":                       "0bc1",
		"00b00":                       "0b00",
		"00z":                         "0z",
		"00a":                         "0a",
		"7b":                          "7b",
		"007b":                        "7b",
		"07":                          "7",
		"007":                         "7",
		"0010":                        "10",
		"100":                         "100",
		"1001":                        "1001",
		"0900":                        "900",
		"01":                          "1",
		"09":                          "9",
		"0a0":                         "0a0",
		"00a0b00":                     "0a0b00",
		"7b00":                        "7b00",
		"b007":                        "b007",
		"b00":                         "b00",
		"0'0'7":                       "7",
		"0 07":                        "0 7",
		"0-0":                         "0 0",
		"000 Main 000":                "main 0 0",
		"Main 0012 00b":               "main 12 0b",
		strings.Repeat("0", 63) + "1": "1",
		strings.Repeat("0", 63) + "b": "0b",
	} {
		expectNormal(t, common(), s, want)
		expectNormal(t, api.Rules{}, s, want)
	}
}

// P4.1: every number with up to three zeros in front has the normal form of the number alone, and one of nothing but zeros is 0.
func TestNormaliseAllNumbers(t *testing.T) {
	for n := range 1200 {
		for _, end := range []string{"", "a", "b0", "z09"} {
			want := strconv.Itoa(n) + end
			for zeros := range 4 {
				expectNormal(t, common(), strings.Repeat("0", zeros)+want, want)
			}
		}
	}
}

// P4.1: words come first and numbers behind them, each in their order; a token with a digit that is not its first byte is a word.
func TestNormaliseOrder(t *testing.T) {
	for s, want := range map[string]string{
		"12 main":            "main 12",
		"main 12":            "main 12",
		"1 2 3":              "1 2 3",
		"3 1 2":              "3 1 2",
		"2 b 1 a":            "b a 2 1",
		"b 2 a 1":            "b a 2 1",
		"3 3 a a":            "a a 3 3",
		"12b main 7":         "main 12b 7",
		"b12 7 main":         "b12 main 7",
		"9 lane a1 8z b 007": "lane a1 b 9 8z 7",
		"100 20 3":           "100 20 3",
		"z 5 y 4 x 3":        "z y x 5 4 3",
		"flat 3, 12 high":    "flat high 3 12",
		"12, high, flat 3":   "high flat 12 3",
		"3a 3b":              "3a 3b",
		"3b 3a":              "3b 3a",
	} {
		expectNormal(t, common(), s, want)
		expectNormal(t, api.Rules{}, s, want)
	}
}

// P4.1: tokens that are the From of a rule of Streets are replaced at each place, once; parts of other tokens, and Froms of nicknames, are not.
func TestNormaliseStreets(t *testing.T) {
	for s, want := range map[string]string{
		"st":                 "street",
		"St.":                "street",
		"S't":                "street",
		"main st":            "main street",
		"st main":            "street main",
		"12 st 5 main":       "street main 12 5",
		"main St 12":         "main street 12",
		"av rd st str":       "avenue road street street",
		"st st st":           "street street street",
		"street":             "street",
		"stt ast s t strr":   "stt ast s t strr",
		"1st 2rd 0st 00st":   "1st 2rd 0st 0st",
		"st1 rd2":            "st1 rd2",
		"avenue road street": "avenue road street",
		"dr bob st":          "dr bob street",
		"\xc3\xa5v":          "avenue",
	} {
		expectNormal(t, common(), s, want)
	}
	for i, p := range many(api.MaxRules) {
		r := api.Rules{Streets: many(api.MaxRules)}
		r.Streets[i].To = "this"
		expectNormal(t, r, "9 "+p.From+" b", "this b 9")
	}
	expectNormal(t, api.Rules{}, "main st 12", "main st 12")
	// Another list may have the same words, in the other direction.
	crossed := api.Rules{Nicknames: []api.Pair{{From: "street", To: "st"}}, Streets: []api.Pair{{From: "st", To: "street"}}}
	expectNormal(t, crossed, "1 street st", "street street 1")
}

// P4.1: rules that replace a number, or by a number, are not valid: what is a number before the rules is one behind them.
func TestNormaliseNoNumberRules(t *testing.T) {
	for _, wrong := range []string{"1", "12", "0", "007", "1a", "a1", "twelve1"} {
		for _, s := range []string{"", "main 12", "twelve", "1", "12"} {
			expectError(t, streets("twelve", wrong), s, api.ErrRule)
			expectError(t, streets(wrong, "twelve"), s, api.ErrRule)
		}
	}
	expectNormal(t, streets("twelve", "dozen"), "twelve 12 eleven", "dozen eleven 12")
}

// P4.1: words and numbers count together, and none goes.
func TestNormaliseTokens(t *testing.T) {
	r := common()
	for s, want := range map[string]string{
		"a b c d e f":          "a b c d e f",
		"1 2 3 4 5 6":          "1 2 3 4 5 6",
		"1 a 2 b 3 c":          "a b c 1 2 3",
		"st st st st st st":    "street street street street street street",
		"00 0 a 0b b 1":        "a b 0 0 0b 1",
		"dr bob a b c d":       "dr bob a b c d",
		" a.b-c/d, e    f' '!": "a b c d e f",
	} {
		expectNormal(t, r, s, want)
	}
	for _, s := range []string{
		"a b c d e f g", "1 2 3 4 5 6 7", "1 a 2 b 3 c 4", "st st st st st st st", "0 0 0 0 0 0 0", "a a a a a a a",
		"dr a b c d e f", "a b c d e f 1", "1 2 3 4 5 6 a", strings.Repeat("a ", 32), strings.Repeat("1 ", 32),
	} {
		expectError(t, r, s, api.ErrLimit)
	}
}

// P4.1: the length of the result counts, not that of the address.
func TestNormaliseLength(t *testing.T) {
	with := func(to int) api.Rules { return streets("n", letters(to)) }
	expectNormal(t, with(api.MaxText), "N", letters(api.MaxText))
	expectNormal(t, with(api.MaxText-2), "N b", letters(api.MaxText-2)+" b")
	expectNormal(t, with(api.MaxText-2), "1 N", letters(api.MaxText-2)+" 1")
	expectNormal(t, with(api.MaxText-2), "00 N", letters(api.MaxText-2)+" 0")
	expectNormal(t, with(api.MaxText-3), "00b N", letters(api.MaxText-3)+" 0b")
	five := "n n n n n "
	expectNormal(t, with(9), five+"n", strings.Repeat(letters(9)+" ", 5)+letters(9))
	expectNormal(t, with(9), five+"00012345678901234", strings.Repeat(letters(9)+" ", 5)+"12345678901234")
	expectError(t, with(9), five+"000123456789012345", api.ErrLimit)
	expectError(t, with(10), five+"n", api.ErrLimit)
	expectError(t, with(api.MaxText-1), "N b", api.ErrLimit)
	expectError(t, with(api.MaxText-1), "b N", api.ErrLimit)
	expectError(t, with(api.MaxText-1), "1 N", api.ErrLimit)
	expectError(t, with(api.MaxText-2), "00b N", api.ErrLimit)
	expectError(t, with(api.MaxText), "n n", api.ErrLimit)
	shorter := streets(letters(60), "short")
	expectNormal(t, shorter, letters(60)+" b", "short b")
	expectNormal(t, shorter, "5 "+letters(60), "short 5")
}

// P4.1: an address that is no valid text, even where it has nothing but zeros or separators.
func TestNormaliseInvalidText(t *testing.T) {
	for _, s := range notTexts() {
		expectError(t, common(), s, api.ErrText)
		expectError(t, api.Rules{}, s, api.ErrText)
	}
}

// P4.1: errors of the rules come first, then that of the text, then those of the limits.
func TestNormaliseErrors(t *testing.T) {
	long := api.Rules{Streets: many(api.MaxRules + 1)}
	wrong := api.Rules{Streets: []api.Pair{{From: "b", To: "x"}, {From: "a", To: "x"}}}
	seven := "a b c 1 2 3 4"
	for _, s := range []string{"", "main", "12", "a\tb", seven, seven + "\t", letters(api.MaxText + 1)} {
		expectError(t, long, s, api.ErrLimit)
		expectError(t, wrong, s, api.ErrRule)
		expectError(t, streets("st", "st"), s, api.ErrRule)
		expectError(t, streets("St", "street"), s, api.ErrRule)
		expectError(t, streets("st", "high street"), s, api.ErrRule)
		expectError(t, streets("", "street"), s, api.ErrRule)
		expectError(t, streets("st", ""), s, api.ErrRule)
		expectError(t, api.Rules{Titles: []string{"b", "a"}}, s, api.ErrRule)
		expectError(t, api.Rules{Nicknames: []api.Pair{{From: "a", To: "a"}}}, s, api.ErrRule)
		expectError(t, api.Rules{Titles: []string{"a"}, Nicknames: []api.Pair{{From: "b", To: "a"}}}, s, api.ErrRule)
		expectError(t, api.Rules{Titles: make([]string, api.MaxRules+1), Streets: []api.Pair{{}}}, s, api.ErrLimit)
	}
	tooLong := streets("n", letters(api.MaxText))
	for _, s := range []string{seven + "\t", seven + strings.Repeat(" ", api.MaxText), "n n\t"} {
		expectError(t, tooLong, s, api.ErrText)
	}
	expectError(t, tooLong, seven, api.ErrLimit)
	expectError(t, tooLong, "n n", api.ErrLimit)
}

// P4.1: Normal tells what Normalise leaves as it is.
func TestNormal(t *testing.T) {
	for _, s := range []string{
		"", "a", "0", "7", "0b", "7b", "main street 12", "a b c d e f", "1 2 3 4 5 6", "a b1 2b 1", "a 0 0", letters(api.MaxText),
		strings.Repeat("9", api.MaxText), "dr bob", "main 2 1",
	} {
		if !address.Normal(common(), s) {
			t.Errorf("%q is normal", s)
		}
	}
	for _, s := range []string{
		" ", "A", " a", "a ", "a  1", "a-b", "a'b", "12 main", "main 12 street", "main 012", "00", "00b", "st", "main st 12", "1 a",
		"\xc3\xa4", "a\tb", "\x00", "a b c d e f 1", letters(api.MaxText + 1),
	} {
		if address.Normal(common(), s) {
			t.Errorf("%q is not normal", s)
		}
	}
}

// P4.1, P4.2, consequences: addresses of many forms lead to normal forms that stay as they are, and are not too long.
func TestNormaliseTwice(t *testing.T) {
	parts := []string{"", "St", "rd", "7", "0", "00", "a", "0b", "b0", " ", "-", "'", "\xc3\xa4", "\xc3\x97", "Main"}
	for _, a := range parts {
		for _, b := range parts {
			for _, c := range parts {
				for _, d := range parts {
					checkTwice(t, a+b+c+d)
					checkTwice(t, a+" "+b+"."+c+" "+d)
				}
			}
		}
	}
}

// checkTwice checks the consequences for an address that has no error.
func checkTwice(t *testing.T, s string) {
	t.Helper()
	normal, e := address.Normalise(common(), s)
	if e != api.OK {
		t.Fatalf("%q: %d", s, e)
	}
	if again, e := address.Normalise(common(), normal); e != api.OK || again != normal || !address.Normal(common(), normal) {
		t.Errorf("Normalise(%q) is %q, and this becomes %q, %d", s, normal, again, e)
	}
	if len(normal) > api.MaxText || strings.Trim(normal, " ") != normal || strings.Contains(normal, "  ") {
		t.Errorf("Normalise(%q) is %q", s, normal)
	}
	// In a normal form, what is no number stands first, and the first number behind it.
	front := strings.Trim(address.Street(normal)+" "+address.Number(normal), " ")
	if normal != front && !strings.HasPrefix(normal, front+" ") {
		t.Errorf("Street and Number of %q are %q", normal, front)
	}
}

// P4.1, P4.2, consequences: it makes no difference where the number stood.
func TestNormaliseAlike(t *testing.T) {
	for _, s := range []string{
		"12 main street", "main 12 street", "main street 12", "12, Main St.", "MAIN STREET 0012", "Main-Str/12", " 012 Main  St ", "M'ain' st. 1'2",
	} {
		expectNormal(t, common(), s, "main street 12")
		normal, _ := address.Normalise(common(), s)
		if address.Street(normal) != "main street" || address.Number(normal) != "12" {
			t.Errorf("%q: %q, %q", s, address.Street(normal), address.Number(normal))
		}
	}
}

// expectParts checks the number and the street of a text.
func expectParts(t *testing.T, s, number, street string) {
	t.Helper()
	if got := address.Number(s); got != number {
		t.Errorf("Number(%q) is %q, not %q", s, got, number)
	}
	if got := address.Street(s); got != street {
		t.Errorf("Street(%q) is %q, not %q", s, got, street)
	}
}

// P4.2: addresses in normal form.
func TestParts(t *testing.T) {
	expectParts(t, "", "", "")
	expectParts(t, "main", "", "main")
	expectParts(t, "main street", "", "main street")
	expectParts(t, "main street 12", "12", "main street")
	expectParts(t, "main 12 7b", "12", "main")
	expectParts(t, "main 7b 12", "7b", "main")
	expectParts(t, "12", "12", "")
	expectParts(t, "9 8 7", "9", "")
	expectParts(t, "0b", "0b", "")
	expectParts(t, "b0", "", "b0")
	for digit := '0'; digit <= '9'; digit++ {
		expectParts(t, "a "+string(digit)+" b", string(digit), "a b")
		expectParts(t, "a"+string(digit), "", "a"+string(digit))
		expectParts(t, string(digit)+"a", string(digit)+"a", "")
	}
}

// P4.2: texts that are no normal forms are parted as they are: numbers at any place, and bytes of all kinds.
func TestPartsOfAnyText(t *testing.T) {
	expectParts(t, "12 main", "12", "main")
	expectParts(t, "main 12 street 7 end", "12", "main street end")
	expectParts(t, "7 main 3", "7", "main")
	expectParts(t, "  main   0012   street  ", "0012", "main street")
	expectParts(t, " ", "", "")
	expectParts(t, "     ", "", "")
	expectParts(t, "000", "000", "")
	expectParts(t, "00b Main", "00b", "Main")
	expectParts(t, "Main St. 1/2", "1/2", "Main St.")
	expectParts(t, "-1 +2 .3 x", "", "-1 +2 .3 x")
	expectParts(t, "a\t1 b", "", "a\t1 b")
	expectParts(t, "a\n1 2\n", "2\n", "a\n1")
	expectParts(t, "\xff 1\x00 \x00", "1\x00", "\xff \x00")
	expectParts(t, "/ : 1", "1", "/ :")
	// Digits of other scripts are no digits.
	expectParts(t, "\u0661 \u00b2 \uff11", "", "\u0661 \u00b2 \uff11")
	long := strings.Repeat("a 1 ", 1<<14)
	expectParts(t, long, "1", strings.TrimRight(strings.Repeat("a ", 1<<14), " "))
	expectParts(t, letters(1<<16), "", letters(1<<16))
	expectParts(t, strings.Repeat("1", 1<<16), strings.Repeat("1", 1<<16), "")
}

// P4.2: for each byte, a token that begins with it is a number if the byte is a digit, and else a part of the street.
func TestPartsOfBytes(t *testing.T) {
	for c := range 256 {
		token := string([]byte{byte(c)}) + "5"
		switch {
		case c == ' ':
			expectParts(t, token, "5", "")
		case strings.ContainsRune("0123456789", rune(c)):
			expectParts(t, token, token, "")
		default:
			expectParts(t, token, "", token)
		}
	}
}

// expectCode checks the normal form of a code, and that it is one.
func expectCode(t *testing.T, s, want string) {
	t.Helper()
	if got, e := address.Code(s); e != api.OK || got != want {
		t.Errorf("Code(%q) is %q, %d, not %q", s, got, e, want)
	}
	if address.Normed(s) != (s == want) {
		t.Errorf("Normed(%q) is %v", s, s != want)
	}
	if again, e := address.Code(want); e != api.OK || again != want || !address.Normed(want) {
		t.Errorf("the normal form %q has the normal form %q, %d", want, again, e)
	}
}

// expectCodeError checks the error of a code, and that it is no normal form.
func expectCodeError(t *testing.T, s string, want api.Errno) {
	t.Helper()
	if got, e := address.Code(s); e != want || got != "" {
		t.Errorf("Code(%q) is %q, %d, not %d", s, got, e, want)
	}
	if address.Normed(s) {
		t.Errorf("%q is not normed", s)
	}
}

// P4.3: codes are folded and lose their spaces; zeros and the order of tokens stay.
func TestCode(t *testing.T) {
	for s, want := range map[string]string{
		"":                                       "",
		" ":                                      "",
		"-./'":                                   "",
		"SW1A 1AA":                               "sw1a1aa",
		"sw1a1aa":                                "sw1a1aa",
		" sw 1a - 1a a ":                         "sw1a1aa",
		"00123":                                  "00123",
		"0 0 1 b":                                "001b",
		"12 b 3 a":                               "12b3a",
		"D-10'115":                               "d10115",
		"\xc3\x84\xc3\x9f\xc3\x97":               "ass",
		"a b c d e f g h i":                      "abcdefghi",
		"st":                                     "st",
		"123456789012":                           "123456789012",
		"1 2 3 4 5 6 7 8 9 0 1 2":                "123456789012",
		strings.Repeat(" ", 64):                  "",
		strings.Repeat(".", 52) + "123456789012": "123456789012",
		strings.Repeat("\xc3\x9f", 6):            "ssssssssssss",
	} {
		expectCode(t, s, want)
	}
}

// P4.3: a code that is no valid text comes before one that is too long; the length is that of the code without separators.
func TestCodeErrors(t *testing.T) {
	for _, s := range notTexts() {
		expectCodeError(t, s, api.ErrText)
	}
	expectCodeError(t, "1234567890123\t", api.ErrText)
	for _, s := range []string{
		"1234567890123", "a234567890123", "1 2 3 4 5 6 7 8 9 0 1 2 3", "SW1A-1AA SW1A-1AA", letters(api.MaxText), letters(api.MaxCode + 1),
		strings.Repeat("0", api.MaxCode+1), strings.Repeat("\xc3\x9f", 7), strings.Repeat("a ", 32),
	} {
		expectCodeError(t, s, api.ErrLimit)
	}
}

// P4.3: Normed tells what Code leaves as it is.
func TestNormed(t *testing.T) {
	for _, s := range []string{"", "a", "0", "000", "sw1a1aa", "123456789012", letters(api.MaxCode), "abcdefghijkl"} {
		if !address.Normed(s) {
			t.Errorf("%q is normed", s)
		}
	}
	for _, s := range []string{" ", "A", " a", "a ", "a b", "a-b", "a'b", "SW1A1AA", "sw1a 1aa", "\xc3\xa4", "a\tb", "\x00", letters(api.MaxCode + 1), letters(api.MaxText + 1)} {
		if address.Normed(s) {
			t.Errorf("%q is not normed", s)
		}
	}
}

// P4.3: a code is what folding leaves, without its spaces.
func TestCodeOfFolded(t *testing.T) {
	for a := range 256 {
		for b := range 256 {
			s := string([]byte{'1', byte(a), byte(b), 'X'})
			folded, e := text.Fold(s)
			if e != api.OK {
				expectCodeError(t, s, e)
			} else {
				expectCode(t, s, strings.Join(strings.Fields(folded), ""))
			}
		}
	}
}
