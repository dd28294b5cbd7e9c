package lex

import (
	"regexp"
	"slices"
	"strconv"
	"strings"
	"testing"
	"unicode/utf8"
	"unsafe"

	"courier/api"
	"courier/ident"
)

// most is the greatest number that is a word.
const most = 2147483647

// invalid are bytes that are no rune's: alone, cut off, too long a form, half of
// a pair, beyond the last rune.
var invalid = []string{
	"\xff", "\x80", "\xce", "\xce\xce\xbb", "\xbb\xce", "\xc1\xa1", "\xe0\x80\xaf",
	"\xed\xa0\x80", "\xed\xbf\xbf", "\xf4\x90\x80\x80", "\xf0\x9f\x98", "\xfe",
}

func word(kind int, text string, line, col int) Word {
	return Word{Kind: kind, Text: text, At: api.Pos{Line: line, Col: col}}
}

func checkWords(t *testing.T, s string, want ...Word) {
	t.Helper()
	words, at, err := Words(s)
	if err != api.OK || at != (api.Pos{}) || !slices.Equal(words, want) {
		t.Errorf("Words(%.60q) = %.20v, %v, %d, want %.20v", s, words, at, err, want)
	}
}

func checkFault(t *testing.T, s string, line, col int, want api.Errno) {
	t.Helper()
	words, at, err := Words(s)
	if err != want || at != (api.Pos{Line: line, Col: col}) || len(words) != 0 {
		t.Errorf("Words(%.60q) = %d words, %v, %d, want the error %d at %d, %d", s, len(words), at, err, want, line, col)
	}
}

// checkCount asks that s has just so many words, and no fault.
func checkCount(t *testing.T, s string, want int) {
	t.Helper()
	words, at, err := Words(s)
	if err != api.OK || at != (api.Pos{}) || len(words) != want {
		t.Errorf("Words(%.60q) = %d words, %v, %d, want %d", s, len(words), at, err, want)
	}
}

// P4.1: the chapter's examples.
func TestExamples(t *testing.T) {
	checkWords(t, "a=1;// x", word(1, "a", 1, 1), word(3, "=", 1, 2), word(2, "1", 1, 3), word(3, ";", 1, 4))
	checkWords(t, "a\n  b", word(1, "a", 1, 1), word(1, "b", 2, 3))
	for _, s := range []string{"01", "1a", "é", "/x"} {
		checkFault(t, s, 1, 1, api.ErrLex)
	}
}

// P4.1: a declaration, with all kinds of words in it.
func TestDeclaration(t *testing.T) {
	checkWords(t, "message A {\n\trepeated b.C λ_1 = 20; // x\n}\nrpc(){}",
		word(1, "message", 1, 1), word(1, "A", 1, 9), word(3, "{", 1, 11),
		word(1, "repeated", 2, 2), word(1, "b", 2, 11), word(3, ".", 2, 12), word(1, "C", 2, 13),
		word(1, "λ_1", 2, 15), word(3, "=", 2, 19), word(2, "20", 2, 21), word(3, ";", 2, 23), word(3, "}", 3, 1),
		word(1, "rpc", 4, 1), word(3, "(", 4, 4), word(3, ")", 4, 5), word(3, "{", 4, 6), word(3, "}", 4, 7))
}

// P4.1: a text without words has none, and no fault.
func TestNoWords(t *testing.T) {
	for _, s := range []string{"", " ", "\t", "\n", " \t\n\n\t ", "//", "///", "// a", "//\n", "//a\n//b", "\n//\n\n", "//\n//"} {
		checkWords(t, s)
	}
}

// P4.1: texts of MaxSource bytes, and of one more, whatever stands in them.
func TestSourceLength(t *testing.T) {
	fill := func(unit string, size int) string {
		return strings.Repeat(unit, size/len(unit)) + strings.Repeat(" ", size%len(unit))
	}
	for unit, count := range map[string]int{
		" ": 0, "\n": 0, "\t": 0, "//xx\n": 0, "      a": api.MaxSource / 7, "//ωω\xff\n": 0, "ωωωωωωω;": api.MaxSource / 15 * 2,
	} {
		checkCount(t, fill(unit, api.MaxSource), count)
		checkCount(t, fill(unit, api.MaxSource-1), (api.MaxSource-1)/len(unit)*(count/(api.MaxSource/len(unit))))
		checkFault(t, fill(unit, api.MaxSource+1), 1, 1, api.ErrLong)
	}
	// Bytes count, not runes.
	checkWords(t, "//"+strings.Repeat("ω", api.MaxSource/2-1))
	checkFault(t, "// "+strings.Repeat("ω", api.MaxSource/2-1), 1, 1, api.ErrLong)
	last := strings.Repeat("\n", api.MaxSource-1)
	checkWords(t, last+"a", word(1, "a", api.MaxSource, 1))
	checkFault(t, last+"é", 1, 1, api.ErrLong)
	checkFault(t, last+"/", api.MaxSource, 1, api.ErrLex)
	checkFault(t, strings.Repeat(" ", api.MaxSource-1)+"\xff", 1, api.MaxSource, api.ErrLex)
	// Asked ahead of all else, the first rune's fault too.
	for _, ahead := range []string{"/", "\xff", "01", "é", strings.Repeat("a", api.MaxName+1), strings.Repeat(";", api.MaxTokens+1)} {
		checkFault(t, ahead+strings.Repeat(" ", api.MaxSource+1-len(ahead)), 1, 1, api.ErrLong)
	}
	checkFault(t, strings.Repeat("a", 1<<20), 1, 1, api.ErrLong)
	checkFault(t, strings.Repeat("\xff", 1<<20), 1, 1, api.ErrLong)
}

// P4.1: MaxTokens words, and one more, of each kind.
func TestWordCount(t *testing.T) {
	for _, unit := range []string{";", "a ", "1\n", "λ.", "0=", "a//\n"} {
		one, _, _ := Words(unit)
		all := strings.Repeat(unit, api.MaxTokens/len(one))
		checkCount(t, all, api.MaxTokens)
		for _, between := range []string{"", " ", "\n\n", "\t", "//", "// ; a", "//\n "} {
			checkCount(t, all+between, api.MaxTokens)
		}
		lines := 1 + strings.Count(all, "\n")
		col := 1 + utf8.RuneCountInString(all[strings.LastIndex(all, "\n")+1:])
		for _, more := range []string{"a", "0", "{", "b c d", "7;é", "a\xff", "; 01", strings.Repeat("a", api.MaxName), "message"} {
			checkFault(t, all+more, lines, col, api.ErrLong)
			checkFault(t, all+"  "+more, lines, col+2, api.ErrLong)
			checkFault(t, all+"// x\n\tλ "+more, lines+1, 2, api.ErrLong)
		}
	}
}

// P4.1: at the place of the word that would be one too many, what is no word is
// told as that.
func TestFaultBehindTheLastWord(t *testing.T) {
	all := strings.Repeat(";", api.MaxTokens)
	for _, bad := range []string{"é", "/", "_", "\xff", "01", "1a", "2147483648", strings.Repeat("a", api.MaxName+1)} {
		checkFault(t, all+bad, 1, api.MaxTokens+1, api.ErrLex)
		checkFault(t, all+" "+bad+" ;", 1, api.MaxTokens+2, api.ErrLex)
		checkFault(t, all+";"+bad, 1, api.MaxTokens+1, api.ErrLong)
		checkFault(t, all[1:]+bad+";;", 1, api.MaxTokens, api.ErrLex)
	}
}

// P4.1: names of up to MaxName runes, however many bytes these are.
func TestNames(t *testing.T) {
	for _, s := range []string{"a", "z", "A", "Z", "Α", "ω", "\u03a2", "a_", "a__", "a0", "x9_", "aω1", "λa", "message", "int64", "Z_9z"} {
		checkWords(t, s, word(1, s, 1, 1))
		checkWords(t, " "+s+";"+s, word(1, s, 1, 2), word(3, ";", 1, 2+utf8.RuneCountInString(s)), word(1, s, 1, 3+utf8.RuneCountInString(s)))
	}
	for _, unit := range []string{"a", "ω", "aω", "a_", "b7", "Z", "λ0_"} {
		runes := []rune(strings.Repeat(unit, 3*api.MaxName))
		for _, size := range []int{1, 2, api.MaxName/2 + 1, api.MaxName - 1, api.MaxName} {
			s := string(runes[:size])
			checkWords(t, s+"\n"+s, word(1, s, 1, 1), word(1, s, 2, 1))
			checkFault(t, s+"é", 1, size+1, api.ErrLex)
		}
		for _, size := range []int{api.MaxName + 1, api.MaxName + 2, 2 * api.MaxName, 2*api.MaxName + 1, 3 * api.MaxName} {
			s := string(runes[:size])
			checkFault(t, s, 1, 1, api.ErrLex)
			checkFault(t, "ω =\n"+s+";", 2, 1, api.ErrLex)
		}
	}
	for _, tail := range []string{"_", "0", "9", "ω", "a", "Z"} {
		checkFault(t, "b "+strings.Repeat("a", api.MaxName)+tail, 1, 3, api.ErrLex)
	}
	checkFault(t, strings.Repeat("a", api.MaxSource), 1, 1, api.ErrLex)
}

// P4.1: numbers are decimal digits, without noughts ahead, up to the greatest.
func TestNumbers(t *testing.T) {
	for _, s := range []string{"0", "1", "9", "10", "12", "100", "999999999", "1000000000", "2147483646", "2147483647", "536870911"} {
		checkWords(t, s, word(2, s, 1, 1))
		checkWords(t, "λ="+s+"\n", word(1, "λ", 1, 1), word(3, "=", 1, 2), word(2, s, 1, 3))
		for _, behind := range []string{";", ".", "{", "=", " ", "\t", "\n", "//", "// a"} {
			words, at, err := Words(s + behind)
			if err != api.OK || at != (api.Pos{}) || len(words) == 0 || words[0] != word(2, s, 1, 1) {
				t.Errorf("Words(%q) = %v, %v, %d", s+behind, words, at, err)
			}
		}
	}
	for _, s := range []string{
		"00", "01", "09", "000", "0123", "02147483647", "00000000000000000000000000001", "2147483648", "2147483657", "2147483650",
		"2147484000", "3000000000", "4294967295", "4294967296", "4294967297", "9999999999", "10000000000", "21474836470",
		"9223372036854775807", "9223372036854775808", "18446744073709551615", "18446744073709551616", "18446744073709551617",
		"340282366920938463463374607431768211457", strings.Repeat("1", api.MaxSource/2), strings.Repeat("0", api.MaxSource/2),
	} {
		checkFault(t, s, 1, 1, api.ErrLex)
		checkFault(t, "a\n\tλ "+s+" é", 2, 4, api.ErrLex)
	}
	for _, n := range []int{most - 1, most, most + 1} {
		_, _, err := Words(strconv.Itoa(n))
		if (err == api.OK) != (n <= most) {
			t.Errorf("Words(%d) answers %d", n, err)
		}
	}
}

// P4.1: a letter, a digit or a _ behind a number makes it none, at its first rune;
// another rune is asked for itself.
func TestBehindNumbers(t *testing.T) {
	for _, number := range []string{"0", "1", "12", "2147483647", "2147483648", "01"} {
		for _, tail := range []string{"a", "z", "A", "Z", "_", "Α", "ω", "\u03a2", "_0", "e5", "x1", "_a", "a\xff", "λ/"} {
			checkFault(t, number+tail, 1, 1, api.ErrLex)
			checkFault(t, "; "+number+tail+" b", 1, 3, api.ErrLex)
		}
	}
	checkFault(t, "0x10", 1, 1, api.ErrLex)
	checkFault(t, "1_000", 1, 1, api.ErrLex)
	checkFault(t, "21474836471", 1, 1, api.ErrLex)
	for _, tail := range []string{"é", "\xff", "/", "-", "٣", "\u0390", "\u03ca", "\ufffd", "+1", "'"} {
		checkFault(t, "12"+tail, 1, 3, api.ErrLex)
		checkFault(t, "a2"+tail, 1, 3, api.ErrLex)
	}
	for _, sign := range []string{"-", "+"} {
		checkFault(t, sign+"1", 1, 1, api.ErrLex)
	}
	checkWords(t, "1.5", word(2, "1", 1, 1), word(3, ".", 1, 2), word(2, "5", 1, 3))
}

// P4.1: each rune alone, behind a name and behind a number: which ones begin a
// word, which ones stand between words, and that no others are right.
func TestEachRune(t *testing.T) {
	for r := rune(0); r <= utf8.MaxRune; r++ {
		kind := 0
		switch {
		case ident.Letter(r):
			kind = 1
		case r >= '0' && r <= '9':
			kind = 2
		case strings.ContainsRune("{}()=;.", r):
			kind = 3
		}
		right := kind != 0 || r == ' ' || r == '\t' || r == '\n'
		words, at, err := Words(string(r))
		if !right {
			if err != api.ErrLex || at != (api.Pos{Line: 1, Col: 1}) || len(words) != 0 {
				t.Errorf("the rune %#x: %v, %v, %d", r, words, at, err)
			}
		} else if err != api.OK || kind == 0 && len(words) != 0 || kind != 0 && !slices.Equal(words, []Word{word(kind, string(r), 1, 1)}) {
			t.Errorf("the rune %#x: %v, %v, %d", r, words, at, err)
		}
		_, at, err = Words("aλ" + string(r))
		if fine := right || r == '_'; fine != (err == api.OK) || !fine && at != (api.Pos{Line: 1, Col: 3}) {
			t.Errorf("the rune %#x behind a name: %v, %d", r, at, err)
		}
		_, at, err = Words("10" + string(r))
		switch {
		case kind == 1 || r == '_':
			if err != api.ErrLex || at != (api.Pos{Line: 1, Col: 1}) {
				t.Errorf("the rune %#x behind a number: %v, %d", r, at, err)
			}
		case right != (err == api.OK) || !right && at != (api.Pos{Line: 1, Col: 3}):
			t.Errorf("the rune %#x behind a number: %v, %d", r, at, err)
		}
	}
}

// P4.1: each sign is a word of its own; signs beside them are none.
func TestSigns(t *testing.T) {
	signs := "{}()=;."
	for i := range signs {
		sign := signs[i : i+1]
		checkWords(t, sign, word(3, sign, 1, 1))
		checkWords(t, sign+sign, word(3, sign, 1, 1), word(3, sign, 1, 2))
		checkWords(t, "a"+sign+"1"+sign, word(1, "a", 1, 1), word(3, sign, 1, 2), word(2, "1", 1, 3), word(3, sign, 1, 4))
		for _, bad := range "!\"#$%&'*+,-/:<>?@[\\]^_`|~" {
			checkFault(t, sign+string(bad), 1, 2, api.ErrLex)
			checkFault(t, string(bad)+sign, 1, 1, api.ErrLex)
		}
	}
	for _, s := range []string{"_", "_a", "__", "_1", "＝", "；", "。", "（", "｛"} {
		checkFault(t, s, 1, 1, api.ErrLex)
	}
}

// P4.1: a remark goes from // to ahead of the line feed, or to the text's end,
// whatever is in it.
func TestRemarks(t *testing.T) {
	inside := []string{"", " ", "x", "/", "//", " // a", "é", "λ", "{};", "01", "1a", "/x", "\r", "\x00", "\t", "_", "/*", "*/", "😀", "\u2028", "\v", "\\", strings.Repeat("a", 99)}
	inside = append(inside, invalid...)
	for _, x := range inside {
		checkWords(t, "//"+x)
		checkWords(t, "//"+x+"\n")
		checkWords(t, "a//"+x+"\nb", word(1, "a", 1, 1), word(1, "b", 2, 1))
		checkWords(t, "a=1;//"+x, word(1, "a", 1, 1), word(3, "=", 1, 2), word(2, "1", 1, 3), word(3, ";", 1, 4))
		checkWords(t, "1//"+x+"\n//"+x+"\n  λb c", word(2, "1", 1, 1), word(1, "λb", 3, 3), word(1, "c", 3, 6))
		checkFault(t, "//"+x+"\n"+"b é", 2, 3, api.ErrLex)
	}
	// A line feed behind a rune's first bytes ends the line.
	checkWords(t, "//\xe2\x82\nb", word(1, "b", 2, 1))
	// What is like a line's end, but is no line feed, ends no remark.
	for _, like := range []string{"\r", "\u2028", "\u2029", "\u0085", "\v", "\f"} {
		checkWords(t, "//"+like+"a\nb", word(1, "b", 2, 1))
	}
}

// P4.1: a / without another right behind it begins nothing.
func TestSlash(t *testing.T) {
	checkFault(t, "/", 1, 1, api.ErrLex)
	checkFault(t, "/ /", 1, 1, api.ErrLex)
	checkFault(t, "/\n/", 1, 1, api.ErrLex)
	checkFault(t, "/*a*/", 1, 1, api.ErrLex)
	checkFault(t, "a/b", 1, 2, api.ErrLex)
	checkFault(t, "aλ /", 1, 4, api.ErrLex)
	checkFault(t, "1/", 1, 2, api.ErrLex)
	checkFault(t, "1/a", 1, 2, api.ErrLex)
	checkFault(t, "//\n/", 2, 1, api.ErrLex)
	checkFault(t, "\n\n/", 3, 1, api.ErrLex)
	checkFault(t, "/\xff/", 1, 1, api.ErrLex)
	checkFault(t, "/a//", 1, 1, api.ErrLex)
	checkFault(t, ";/", 1, 2, api.ErrLex)
}

// P4.1: blanks, tabs and line feeds may stand between words; runes that look like
// these may not.
func TestBlanks(t *testing.T) {
	checkWords(t, "a b", word(1, "a", 1, 1), word(1, "b", 1, 3))
	checkWords(t, "a\tb", word(1, "a", 1, 1), word(1, "b", 1, 3))
	checkWords(t, "a\nb", word(1, "a", 1, 1), word(1, "b", 2, 1))
	checkWords(t, "\n \t1 \t \n\n\t{\n", word(2, "1", 2, 3), word(3, "{", 4, 2))
	checkWords(t, "a{b", word(1, "a", 1, 1), word(3, "{", 1, 2), word(1, "b", 1, 3))
	checkWords(t, "1 2", word(2, "1", 1, 1), word(2, "2", 1, 3))
	checkWords(t, "0 0", word(2, "0", 1, 1), word(2, "0", 1, 3))
	checkWords(t, "1 a", word(2, "1", 1, 1), word(1, "a", 1, 3))
	for _, like := range []string{
		"\r", "\v", "\f", "\x00", "\x1f", "\x7f", "\u0085", "\u00a0", "\u1680", "\u2000", "\u2003", "\u200b", "\u2028", "\u2029",
		"\u202f", "\u205f", "\u3000", "\ufeff", "\u2060",
	} {
		checkFault(t, like, 1, 1, api.ErrLex)
		checkFault(t, "a"+like+"b", 1, 2, api.ErrLex)
		checkFault(t, "a \t"+like+"\n", 1, 4, api.ErrLex)
	}
	checkFault(t, "a\r\nb", 1, 2, api.ErrLex)
}

// P4.1: a place counts runes, not bytes, and from each line feed anew.
func TestPlaces(t *testing.T) {
	checkWords(t, "λλλ b", word(1, "λλλ", 1, 1), word(1, "b", 1, 5))
	checkWords(t, "ω=ωω;\nΑ.b", word(1, "ω", 1, 1), word(3, "=", 1, 2), word(1, "ωω", 1, 3), word(3, ";", 1, 5),
		word(1, "Α", 2, 1), word(3, ".", 2, 2), word(1, "b", 2, 3))
	checkFault(t, "λλ\nλ é", 2, 3, api.ErrLex)
	checkFault(t, "λλé", 1, 3, api.ErrLex)
	checkFault(t, "λ 01", 1, 3, api.ErrLex)
	checkFault(t, "λ "+strings.Repeat("ω", api.MaxName+1), 1, 3, api.ErrLex)
	long := strings.Repeat("λ ", 1000)
	checkFault(t, long+"\n"+long+"/", 2, 2001, api.ErrLex)
	// Runes of a remark in an earlier line count for nothing here.
	checkWords(t, "// 😀é\xff\n a", word(1, "a", 2, 2))
	checkWords(t, "\n\n\n\n  a", word(1, "a", 5, 3))
}

// P4.1: bytes that are no rune's begin no word, and are behind none; so is the
// rune U+FFFD, as which they come.
func TestInvalid(t *testing.T) {
	for _, bad := range append([]string{"\ufffd"}, invalid...) {
		checkFault(t, bad, 1, 1, api.ErrLex)
		checkFault(t, bad+"a", 1, 1, api.ErrLex)
		checkFault(t, "a"+bad, 1, 2, api.ErrLex)
		checkFault(t, "λ1 "+bad+"\n", 1, 4, api.ErrLex)
		checkFault(t, "12"+bad+"a", 1, 3, api.ErrLex)
		checkFault(t, "// "+bad+"\n;\n\t"+bad, 3, 2, api.ErrLex)
		checkFault(t, strings.Repeat("a", api.MaxName)+bad, 1, api.MaxName+1, api.ErrLex)
		checkFault(t, "/"+bad, 1, 1, api.ErrLex)
	}
	for b := 0x80; b <= 0xff; b++ {
		checkFault(t, "; "+string([]byte{byte(b)}), 1, 3, api.ErrLex)
	}
	// A letter's second byte, cut from its first by a line feed.
	checkFault(t, "\xce\n\xbb", 1, 1, api.ErrLex)
	checkFault(t, "a\n\xbb", 2, 1, api.ErrLex)
}

// P4.1: of several faults the first along the text is told.
func TestFirstFault(t *testing.T) {
	faults := []string{"é", "/", "_", "\xff", "01", "1a", "2147483648", strings.Repeat("a", api.MaxName+1), "\r", "-"}
	for _, first := range faults {
		for _, second := range faults {
			checkFault(t, first+" "+second, 1, 1, api.ErrLex)
			checkFault(t, "λ;\n b "+first+"\n"+second, 2, 4, api.ErrLex)
			checkFault(t, "//"+first+"\n= "+second+" "+first, 2, 3, api.ErrLex)
		}
		many := strings.Repeat(";", api.MaxTokens)
		checkFault(t, first+" "+many+";", 1, 1, api.ErrLex)
		checkFault(t, many[1:]+"\n"+first+many, 2, 1, api.ErrLex)
		checkFault(t, many+"\n\n a "+first, 3, 2, api.ErrLong)
	}
}

// wordForm tells what stands at a text's beginning, apart from how the package
// does it: between words, a name, a number, a sign.
var wordForm = regexp.MustCompile(`^(?:([ \t\n]|//[^\n]*)|([a-zA-Z\x{391}-\x{3c9}][a-zA-Z\x{391}-\x{3c9}0-9_]*)|([0-9][a-zA-Z\x{391}-\x{3c9}0-9_]*)|([{}()=;.]))`)

var numberForm = regexp.MustCompile(`^(?:0|[1-9][0-9]{0,9})$`)

// reference answers as Words does, for texts within the limits of bytes and words.
func reference(s string) ([]Word, api.Pos, api.Errno) {
	var words []Word
	for at := 0; at < len(s); {
		ahead := s[:at]
		place := api.Pos{Line: 1 + strings.Count(ahead, "\n"), Col: 1 + utf8.RuneCountInString(ahead[strings.LastIndex(ahead, "\n")+1:])}
		m := wordForm.FindStringSubmatch(s[at:])
		if m == nil || utf8.RuneCountInString(m[2]) > api.MaxName {
			return nil, place, api.ErrLex
		}
		if n, _ := strconv.Atoi(m[3]); m[3] != "" && (!numberForm.MatchString(m[3]) || n > most) {
			return nil, place, api.ErrLex
		}
		for kind := 1; kind <= 3; kind++ {
			if m[kind+1] != "" {
				words = append(words, Word{Kind: kind, Text: m[kind+1], At: place})
			}
		}
		at += len(m[0])
	}
	return words, api.Pos{}, api.OK
}

// checkAgain asks P4.2 of words.
func checkAgain(t *testing.T, words []Word) {
	t.Helper()
	var text strings.Builder
	want := make([]Word, len(words))
	for i, w := range words {
		w.At = api.Pos{Line: 1, Col: 1 + utf8.RuneCountInString(text.String())}
		want[i] = w
		text.WriteString(w.Text + " ")
	}
	if got, at, err := Words(text.String()); err != api.OK || at != (api.Pos{}) || !slices.Equal(got, want) {
		t.Errorf("Words(%.60q) = %.20v, %v, %d, want %.20v", text.String(), got, at, err, want)
	}
}

func checkReference(t *testing.T, s string) {
	t.Helper()
	words, at, err := Words(s)
	wantWords, wantAt, wantErr := reference(s)
	if err != wantErr || at != wantAt || !slices.Equal(words, wantWords) {
		t.Errorf("Words(%q) = %v, %v, %d, want %v, %v, %d", s, words, at, err, wantWords, wantAt, wantErr)
	}
	checkAgain(t, words)
}

// P4.1 and P4.2: all short texts of some pieces.
func TestShortTexts(t *testing.T) {
	pieces := []string{"a", "λ", "_", "0", "1", "2147483647", "/", " ", "\n", "é", "\xce", "\xbb", ";", strings.Repeat("b", api.MaxName-1)}
	texts := []string{""}
	for range 4 {
		var longer []string
		for _, s := range texts {
			for _, p := range pieces {
				checkReference(t, s+p)
				longer = append(longer, s+p)
			}
		}
		texts = longer
	}
}

// P4.2: words' texts, a blank behind each, have the same words, at the limits too.
func TestWrittenAgain(t *testing.T) {
	for _, s := range []string{
		"", "a=1;// x", "a\n  b", "message A{repeated b.C λ_1=20;// x\n}", "a.b.c(){};=0", "1;2\n3\t4 5//6\n7",
		strings.Repeat(";", api.MaxTokens), strings.Repeat("a;", api.MaxTokens/2), strings.Repeat("ω.", api.MaxTokens/2),
		strings.Repeat("2147483647\n", 1000), strings.Repeat(strings.Repeat("ω", api.MaxName)+"\n", 200),
		strings.Repeat("aaa ", api.MaxTokens), strings.Repeat("aaaa ", api.MaxTokens),
	} {
		words, _, err := Words(s)
		if err != api.OK {
			t.Errorf("Words(%.60q) answers %d", s, err)
		}
		checkAgain(t, words)
	}
}

// P4.1 and P4.2: with the blanks a text may become too long, which P4.1 asks first.
func TestWrittenTooLong(t *testing.T) {
	dense := strings.Repeat("aaaaaaaaa;", api.MaxTokens/2)
	checkCount(t, dense, api.MaxTokens)
	checkFault(t, strings.ReplaceAll(dense, ";", " ; "), 1, 1, api.ErrLong)
}

// R2 and R3: an answer hangs on the text alone, and is new memory, spare room too.
func TestNewMemory(t *testing.T) {
	s := "a=1;// x\nλb "
	begin := uintptr(unsafe.Pointer(unsafe.StringData(s)))
	first, _, _ := Words(s)
	want := slices.Clone(first)
	for _, w := range first {
		at := uintptr(unsafe.Pointer(unsafe.StringData(w.Text)))
		if at >= begin && at < begin+uintptr(len(s)) {
			t.Errorf("the text %q lies in the argument", w.Text)
		}
	}
	second, _, _ := Words(s)
	room := second[:cap(second)]
	for i := range room {
		room[i] = word(9, "x", 9, 9)
	}
	Words("é")
	third, at, err := Words(s)
	if !slices.Equal(first, want) || !slices.Equal(third, want) || at != (api.Pos{}) || err != api.OK || len(want) != 5 {
		t.Errorf("the answers share memory: %v, %v", first, third)
	}
}

// P4.1 and P4.2, for whatever bytes a run of the fuzzer finds.
func FuzzWords(f *testing.F) {
	for _, s := range []string{"", "a=1;// x", "a\n  b", "01", "1a", "é", "/x", "λ_1\t2147483648", "//\xff\n{}().", "\xce\xbb\xce"} {
		f.Add(s)
	}
	f.Fuzz(func(t *testing.T, s string) {
		// Cut off, for the reference knows no limits of bytes and words.
		checkReference(t, s[:min(len(s), api.MaxTokens)])
	})
}
