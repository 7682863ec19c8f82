package phonetic_test

import (
	"strings"
	"testing"

	"recordlink/api"
	"recordlink/phonetic"
)

const letters = "abcdefghijklmnopqrstuvwxyz"

// groups are the letters with the digits from 1 on, as the chapter lists them.
var groups = []string{"bfpv", "cgjkqsxz", "dt", "l", "mn", "r"}

// digitOf returns the digit of a letter, the empty text if it has none.
func digitOf(letter byte) string {
	for i, group := range groups {
		if strings.IndexByte(group, letter) >= 0 {
			return string("123456"[i])
		}
	}
	return ""
}

// one returns the text of one byte.
func one(c int) string { return string([]byte{byte(c)}) }

// expectSoundex checks the Soundex codes of tokens.
func expectSoundex(t *testing.T, want string, tokens ...string) {
	t.Helper()
	for _, token := range tokens {
		if got := phonetic.Soundex(token); got != want {
			t.Errorf("Soundex(%q) is %q, not %q", token, got, want)
		}
	}
}

// expectSkeleton checks the skeletons of tokens.
func expectSkeleton(t *testing.T, want string, tokens ...string) {
	t.Helper()
	for _, token := range tokens {
		if got := phonetic.Skeleton(token); got != want {
			t.Errorf("Skeleton(%q) is %q, not %q", token, got, want)
		}
	}
}

// expectKey checks the keys of texts.
func expectKey(t *testing.T, want string, texts ...string) {
	t.Helper()
	for _, s := range texts {
		if got := phonetic.Key(s); got != want {
			t.Errorf("Key(%q) is %q, not %q", s, got, want)
		}
	}
}

// expectSame checks what Same says of two texts, in both orders.
func expectSame(t *testing.T, a, b string, want bool) {
	t.Helper()
	if phonetic.Same(a, b) != want || phonetic.Same(b, a) != want {
		t.Errorf("Same(%q, %q) is %t, and %t in the other order, not %t", a, b, phonetic.Same(a, b), phonetic.Same(b, a), want)
	}
}

// notTokens returns texts that are not 1 to api.MaxText letters from a to z.
func notTokens() []string {
	list := []string{
		"", " ", "Robert", "roberT", "ROBERT", "r2", "2r", "163", "robert ", " robert", "robert smith", "o'neill", "a-b", "a_b", "a.",
		"m\xc3\xbcller", "\xc3\xa4", "\xc3", "rob\x00ert", "robert\n", "robert\t", "`", "{", "a\xff",
		strings.Repeat("a", api.MaxText+1), strings.Repeat("b", api.MaxText+1), strings.Repeat("bd", api.MaxText), strings.Repeat("r", 1<<16),
	}
	for c := range 256 {
		if c >= 'a' && c <= 'z' {
			continue
		}
		// The last ones lie behind what is written of a token: a code, and a skeleton.
		list = append(list, one(c), one(c)+"obert", "rob"+one(c)+"ert", "robert"+one(c), "robertson"+one(c), "bcdlmrbcdlmr"+one(c)+"x", one(c)+one(c))
	}
	return list
}

// longTokens returns all tokens of up to six letters, one of each kind and two of some kinds.
func longTokens() []string {
	tokens := []string{""}
	for i := 0; i < len(tokens); i++ {
		if len(tokens[i]) < 6 {
			for _, c := range "abfhmrw" {
				tokens = append(tokens, tokens[i]+string(c))
			}
		}
	}
	return tokens[1:]
}

// shortTokens returns all tokens of up to three letters.
func shortTokens() []string {
	tokens := []string{""}
	for i := 0; i < len(tokens); i++ {
		if len(tokens[i]) < 3 {
			for _, c := range letters {
				tokens = append(tokens, tokens[i]+string(c))
			}
		}
	}
	return tokens[1:]
}

// P6.1: the examples of the document, and other names.
func TestSoundexExamples(t *testing.T) {
	for token, want := range map[string]string{
		"robert": "r163", "rupert": "r163", "ashcraft": "a261", "ashcroft": "a261", "tymczak": "t522", "lee": "l000",
		"rubin": "r150", "pfister": "p236", "honeyman": "h555", "jackson": "j250", "washington": "w252", "gutierrez": "g362",
		"euler": "e460", "ellery": "e460", "gauss": "g200", "ghosh": "g200", "hilbert": "h416", "heilbronn": "h416",
		"knuth": "k530", "kant": "k530", "lloyd": "l300", "lukasiewicz": "l222", "lissajous": "l222", "smith": "s530", "schmidt": "s530",
		"wheaton": "w350", "burroughs": "b620", "williams": "w452", "oneill": "o540",
	} {
		expectSoundex(t, want, token)
	}
}

// P6.1: the digit of every letter behind a vowel, and behind every first letter.
func TestSoundexDigits(t *testing.T) {
	for i, digit := range []string{
		"000", "100", "200", "300", "000", "100", "200", "000", "000", "200", "200", "400", "500",
		"500", "000", "100", "200", "600", "200", "300", "000", "100", "000", "200", "000", "200",
	} {
		letter := letters[i : i+1]
		for _, c := range "aeiouyhw" {
			expectSoundex(t, string(c)+digit, string(c)+letter)
		}
		for j := range letters {
			first := letters[j : j+1]
			expectSoundex(t, first+digit, first+"o"+letter)
			if digitOf(letters[j]) == digitOf(letters[i]) {
				expectSoundex(t, first+"000", first+letter)
			} else {
				expectSoundex(t, first+digit, first+letter)
			}
		}
	}
}

// P6.1: a token of one letter is that letter and zeros.
func TestSoundexOfOneLetter(t *testing.T) {
	for i := range letters {
		expectSoundex(t, letters[i:i+1]+"000", letters[i:i+1])
	}
}

// P6.1: of letters side by side with equal digits, one digit is written, however many they are.
func TestSoundexSideBySide(t *testing.T) {
	for i, group := range groups {
		digit := string("123456"[i])
		for j := range group {
			for k := range group {
				pair := group[j:j+1] + group[k:k+1]
				expectSoundex(t, "o"+digit+"00", "o"+pair, "o"+pair+pair, "o"+pair+pair+"a", "oo"+pair+"o")
				expectSoundex(t, "o"+digit+digit+"0", "o"+pair+"a"+pair)
			}
		}
	}
	expectSoundex(t, "a120", "abck", "abfcgs", "abbbcccc")
	expectSoundex(t, "a121", "abcb", "abfckp")
}

// P6.1: h and w do not part equal digits, neither alone nor several of them.
func TestSoundexPartedBySilent(t *testing.T) {
	for _, between := range []string{"h", "w", "hh", "ww", "hw", "wh", "hwhw"} {
		expectSoundex(t, "a200", "as"+between+"c", "as"+between+"s", "as"+between+"c"+between+"k")
		expectSoundex(t, "a500", "am"+between+"n"+between)
		expectSoundex(t, "a250", "as"+between+"m")
		// A vowel on either side of them parts.
		expectSoundex(t, "a220", "asa"+between+"s", "as"+between+"as", "asa"+between+"as", "as"+between+"a"+between+"s")
		// The digit of the first letter is not written behind them either.
		expectSoundex(t, "b000", "b"+between+"b", "b"+between+"f", "bf"+between+"p", "b"+between)
		expectSoundex(t, "b200", "b"+between+"c", "b"+between+"bc")
		expectSoundex(t, "b100", "b"+between+"ab", "bo"+between+"b")
	}
}

// P6.1: each vowel parts equal digits, also that of the first letter from the same digit behind it.
func TestSoundexPartedByVowel(t *testing.T) {
	for _, c := range "aeiouy" {
		between := string(c)
		expectSoundex(t, "a220", "as"+between+"s", "as"+between+"c", "as"+between+between+"k", "ass"+between+"ck")
		expectSoundex(t, "a222", "as"+between+"s"+between+"s", "as"+between+"s"+between+"s"+between+"s")
		expectSoundex(t, "b100", "b"+between+"b", "b"+between+"p", "bb"+between+"b", "bf"+between+"pv")
		expectSoundex(t, "b000", "b"+between, "b"+between+between, "bb"+between)
	}
}

// P6.1: the digit of the first letter is not written for the letters behind it, but counts once a vowel or another digit lies between.
func TestSoundexFirstLetter(t *testing.T) {
	expectSoundex(t, "p000", "pf", "pp", "pfb", "phf", "pfff")
	expectSoundex(t, "p236", "pfister", "ppister", "pister")
	expectSoundex(t, "s532", "scmdk", "smdk")
	expectSoundex(t, "b210", "bcb", "bfcb", "bcbb")
	expectSoundex(t, "t522", "tdymczak", "tymczak")
	// First letters without a digit.
	expectSoundex(t, "a000", "a", "aa", "ae", "ahaw")
	expectSoundex(t, "h100", "hb", "hhb", "hwb", "hab", "hbb", "hbhb")
	expectSoundex(t, "w200", "wc", "whc", "wock", "wchs")
	expectSoundex(t, "y500", "ym", "yym", "yhm", "ymn")
	expectSoundex(t, "h000", "h", "hh", "hw", "ha", "hawaii")
	expectSoundex(t, "w000", "w", "wh", "wow", "why")
}

// P6.1: zeros fill up to three digits, and digits beyond three are left out.
func TestSoundexNumberOfDigits(t *testing.T) {
	expectSoundex(t, "o000", "o", "oo", "ohw")
	expectSoundex(t, "o100", "ob", "oba", "obb")
	expectSoundex(t, "o120", "obc", "obaca")
	expectSoundex(t, "o123", "obcd", "obcda", "obcdl", "obcdlmr", "obcdlmrbcdlmr", "obcdd", "obcdhd", "obcdad", "obcd"+strings.Repeat("rlm", 20))
	expectSoundex(t, "o456", "olmr", "olmrbcd", "oolllmmrarb")
	expectSoundex(t, "r163", "robert", "roberts", "robertson", "robertsonsmith")
}

// P6.1: up to api.MaxText letters are a token; what lies behind the code counts as well.
func TestSoundexLimit(t *testing.T) {
	for n := 1; n < 4*api.MaxText; n++ {
		a, b, mixed := strings.Repeat("a", n), strings.Repeat("b", n), ("robert" + strings.Repeat("on", n))[:n]
		switch {
		case n > api.MaxText:
			expectSoundex(t, "", a, b, mixed)
		case n >= 6:
			expectSoundex(t, "r163", mixed)
			fallthrough
		default:
			expectSoundex(t, "a000", a)
			expectSoundex(t, "b000", b)
		}
	}
	expectSoundex(t, "a100", strings.Repeat("a", api.MaxText-1)+"b", strings.Repeat("ah", api.MaxText/2-1)+"ab")
	expectSoundex(t, "", strings.Repeat("a", api.MaxText)+"b", strings.Repeat("h", 1<<16))
}

// P6.1: a text that is no token has no code.
func TestSoundexOfNoToken(t *testing.T) { expectSoundex(t, "", notTokens()...) }

// P6.1: the codes of many tokens are those of the definition.
func TestSoundexOfAllTokens(t *testing.T) {
	for _, token := range append(shortTokens(), longTokens()...) {
		expectSoundex(t, defined(token), token)
	}
}

// defined returns the Soundex code of a token as the chapter defines it: without each h and w behind the first letter, every letter is looked at with the one before it.
func defined(token string) string {
	left := token[:1] + strings.NewReplacer("h", "", "w", "").Replace(token[1:])
	code := token[:1]
	for i := 1; i < len(left); i++ {
		if digitOf(left[i]) != digitOf(left[i-1]) {
			code += digitOf(left[i])
		}
	}
	return (code + "000")[:4]
}

// P6.1 and P6.2, consequences: a code has four bytes, and doubling a letter changes neither the code nor the skeleton.
func TestDoubled(t *testing.T) {
	tokens := append(longTokens(), "robert", "ashcraft", "tymczak", "pfister", "washington", "hilbert", letters, strings.Repeat("bonh", api.MaxText/4)[:api.MaxText-1])
	for _, token := range tokens {
		code, skeleton := phonetic.Soundex(token), phonetic.Skeleton(token)
		if len(code) != 4 {
			t.Errorf("Soundex(%q) is %q", token, code)
		}
		for i := range token {
			doubled := token[:i] + token[i:i+1] + token[i:]
			expectSoundex(t, code, doubled)
			expectSkeleton(t, skeleton, doubled)
		}
	}
}

// P6.2: the example of the document, and other names.
func TestSkeletonExamples(t *testing.T) {
	for token, want := range map[string]string{
		"robert": "rbrt", "rupert": "rprt", "ashcraft": "ascrft", "tymczak": "tmczk", "lee": "l", "anna": "an", "ann": "an", "an": "an",
		"smith": "smt", "schmidt": "scmdt", "oneill": "onl", "bob": "b", "bobby": "b", "william": "wlm", "hannah": "hn", "amalia": "aml",
		"pfister": "pfstr", "otto": "ot", "yvonne": "yvn", "washington": "wsngtn",
	} {
		expectSkeleton(t, want, token)
	}
}

// P6.2: letters with a digit are written, the others only in front.
func TestSkeletonLetters(t *testing.T) {
	for i := range letters {
		letter, written := letters[i:i+1], letters[i:i+1]
		if strings.Contains("aeiouyhw", letter) {
			written = ""
		}
		expectSkeleton(t, letter, letter, letter+letter, letter+"a", letter+"hw", letter+"aeiouyhw", letter+"o"+letter)
		for j := range letters {
			first := letters[j : j+1]
			if first != letter {
				expectSkeleton(t, first+written, first+letter, first+"e"+letter, first+letter+"hy")
			}
		}
	}
}

// P6.2: a letter is compared with the last one that was written, whatever lies between, and not by its digit.
func TestSkeletonDiffers(t *testing.T) {
	for _, between := range []string{"", "a", "e", "i", "o", "u", "y", "h", "w", "aa", "hw", "oho", "aeiouyhw"} {
		expectSkeleton(t, "b", "b"+between+"b", "b"+between+"b"+between+"b", "bb"+between)
		expectSkeleton(t, "ab", "ab"+between+"b", "a"+between+"bb")
		expectSkeleton(t, "bpb", "b"+between+"p"+between+"b", "bb"+between+"pb"+between+"b")
		expectSkeleton(t, "mnm", "m"+between+"n"+between+"m")
		expectSkeleton(t, "acsz", "ac"+between+"s"+between+"z")
	}
	expectSkeleton(t, "bcbcbc", "bcbcbc", "bcbcbcbc", "bocobocoboc")
	// Of a first letter without a digit, others like it are not written.
	expectSkeleton(t, "abcb", "abacabab")
	expectSkeleton(t, "hbcb", "hbhchbhb")
}

// P6.2: six letters are written, and no more.
func TestSkeletonMost(t *testing.T) {
	expectSkeleton(t, "bcdlm", "bcdlm", "bcdlma", "bcdlmm")
	expectSkeleton(t, "bcdlmr", "bcdlmr", "bcdlmra", "bcdlmrr", "bcdlmrh", "bcdlmrb", "bcdlmrbc", "bcdlmrbcdlmr", "bocodolomoro", "bcdlmr"+strings.Repeat("bc", 29))
	expectSkeleton(t, "abcdlm", "abcdlm", "abcdlmr", "abcdlmar", "aabbccddllmmrr")
	expectSkeleton(t, "abcdfg", letters, letters+letters)
	expectSkeleton(t, "hbcdlm", "hbcdlm", "hbcdlmr", "hwbhcwdhlwmhr")
}

// P6.2: tokens at the limit of letters and beyond it.
func TestSkeletonLimit(t *testing.T) {
	expectSkeleton(t, "a", strings.Repeat("a", api.MaxText))
	expectSkeleton(t, "r", strings.Repeat("r", api.MaxText), strings.Repeat("r", api.MaxText-1))
	expectSkeleton(t, "ab", strings.Repeat("a", api.MaxText-1)+"b")
	expectSkeleton(t, "bcbcbc", strings.Repeat("bc", api.MaxText/2))
	expectSkeleton(t, "", strings.Repeat("a", api.MaxText+1), strings.Repeat("r", api.MaxText+1), strings.Repeat("a", api.MaxText)+"b",
		strings.Repeat("bc", api.MaxText/2)+"b", strings.Repeat("bc", api.MaxText), strings.Repeat("h", 1<<16))
}

// P6.2: a text that is no token has no skeleton.
func TestSkeletonOfNoToken(t *testing.T) { expectSkeleton(t, "", notTokens()...) }

// P6.2: the skeletons of many tokens are those of the definition.
func TestSkeletonOfAllTokens(t *testing.T) {
	for _, token := range append(shortTokens(), longTokens()...) {
		expectSkeleton(t, bones(token), token)
	}
}

// bones returns the skeleton of a token as the chapter defines it: letters without a digit are removed first, and then runs of equal letters become one.
func bones(token string) string {
	left := token[:1]
	for i := 1; i < len(token); i++ {
		if digitOf(token[i]) != "" {
			left += token[i : i+1]
		}
	}
	for _, c := range letters {
		for strings.Contains(left, string(c)+string(c)) {
			left = strings.ReplaceAll(left, string(c)+string(c), string(c))
		}
	}
	return left[:min(len(left), 6)]
}

// P6.2: the key of a text is the code of its first token, and of no other one.
func TestKey(t *testing.T) {
	expectKey(t, "r163", "robert", "rupert", "robert smith", " robert", "   robert   smith ", "robert 12", "robert Smith", "robert \xff", "robert robert", "robert a b c d e f g h")
	expectKey(t, "s530", "smith", "smith robert", "smith  12", " smith jr")
	expectKey(t, "a000", "a", "a b", " a", "a bcd")
	expectKey(t, "a261", "ashcraft main", "ashcroft")
}

// P6.2: a text without tokens has no key.
func TestKeyOfNoTokens(t *testing.T) {
	expectKey(t, "", "", " ", "  ", strings.Repeat(" ", api.MaxText), strings.Repeat(" ", 1<<16))
}

// P6.2: a first token without a code leaves the text without a key, whatever follows it.
func TestKeyOfNoCode(t *testing.T) {
	for _, s := range notTokens() {
		if s == "" || strings.Contains(s, " ") {
			continue
		}
		expectKey(t, "", s, s+" ", " "+s, s+" robert", "  "+s+"  robert smith")
		expectKey(t, "r163", "robert "+s)
	}
	expectKey(t, "", "Robert smith", "12 main street", "1 robert", "o'neill smith", "robert\tsmith", "\trobert", "robert\n", "robert, smith", "a\xc2\xa0b")
}

// P6.2: the limit of letters is one of the first token, not of the text.
func TestKeyLimit(t *testing.T) {
	most := "robert" + strings.Repeat("o", api.MaxText-6)
	expectKey(t, "r163", most, most+" ", " "+most, most+" "+most, most+"  a")
	expectKey(t, "", most+"o", most+"o robert", " "+most+"o")
	expectKey(t, "r163", strings.Repeat(" ", api.MaxText)+"robert", "robert "+most+"o", "robert"+strings.Repeat(" smith", 1<<12))
}

// P6.2: equal keys are the same, also of texts that differ.
func TestSameOfEqual(t *testing.T) {
	for _, group := range [][]string{
		{"robert", "rupert", "robert smith", "  rupert  lee", "roberts", "rroberto", "robert 12"},
		{"ashcraft", "ashcroft", "ashcroft Main"},
		{"lee", "lee ann", "lowe", "l", "lh Lee"},
		{"a", "aa", "a b", "ahaw"},
	} {
		for _, a := range group {
			for _, b := range group {
				expectSame(t, a, b, true)
			}
		}
	}
}

// P6.2: different keys are not the same, though only the first letter, a digit or the order of tokens differs, or one of them is empty.
func TestSameOfDifferent(t *testing.T) {
	for _, pair := range [][2]string{
		{"robert", "bobert"}, {"robert", "rob"}, {"robert", "robin"}, {"lee", "les"}, {"karl", "carl"}, {"philip", "filip"}, {"a", "b"},
		{"robert smith", "smith robert"}, {"ann robert", "robert ann"}, {"smith ann", "lee ann"}, {"robert", "Robert"}, {"robert", "12 robert"}, {"a", ""},
	} {
		expectSame(t, pair[0], pair[1], false)
	}
}

// P6.2: empty keys are never the same, not even of equal texts.
func TestSameOfEmpty(t *testing.T) {
	texts := []string{"", " ", "   ", "Robert", "12", "12 robert", "o'neill", "\xff", strings.Repeat("a", api.MaxText+1)}
	for _, a := range texts {
		for _, b := range append(texts, "robert", "a", "0") {
			expectSame(t, a, b, false)
		}
	}
}
