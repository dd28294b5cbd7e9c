package ident

import (
	"slices"
	"strings"
	"testing"
	"unicode/utf8"

	"courier/api"
)

// letters is how many letters there are: 26, 26, and those from U+0391 to U+03C9.
const letters = 26 + 26 + 57

// reserved are the words that the chapter lists.
var reserved = []string{
	"message", "enum", "service", "rpc", "returns", "repeated", "int64",
	"uint64", "sint64", "bool", "string", "bytes", "fixed32", "fixed64",
}

// invalid are texts with bytes that are no rune's: alone, cut off, too long a
// form, half of a pair, beyond the last rune.
var invalid = []string{
	"\xff", "\x80", "\xce", "\xce\xce\xbb", "\xbb\xce", "\xc1\xa1", "\xe0\x80\xaf",
	"\xed\xa0\x80", "\xed\xbf\xbf", "\xf4\x90\x80\x80", "\xf0\x9f\x98", "\xfe",
}

// P3.1: the ends of each range of letters, what is beside them, and what is no
// rune at all.
func TestLetterEdges(t *testing.T) {
	for r, want := range map[rune]bool{
		'a' - 1: false, 'a': true, 'b': true, 'y': true, 'z': true, 'z' + 1: false,
		'A' - 1: false, 'A': true, 'B': true, 'Y': true, 'Z': true, 'Z' + 1: false,
		0x390: false, 0x391: true, 0x392: true, 0x3C8: true, 0x3C9: true, 0x3CA: false,
		0x3A1: true, 0x3A2: true, 0x3A3: true, 0x3A9: true, 0x3AA: true, 0x3B0: true, 0x3B1: true, 0x3BB: true,
		'0': false, '9': false, '_': false, '.': false, ' ': false, '-': false, 0: false, '\n': false,
		0xE9: false, 0xDF: false, 0x430: false, 0x37F: false, 0x386: false, 0x3CE: false, 0x3D1: false,
		utf8.RuneError: false, utf8.MaxRune: false, 0x10000 + 'a': false, 0xD800: false,
		-1: false, -'a': false, 1<<31 - 1: false, -1 << 31: false, 'a' - 1<<31: false,
	} {
		if got := Letter(r); got != want {
			t.Errorf("Letter(%#x) = %t", r, got)
		}
	}
}

// P3.1: no other rune is a letter.
func TestLetterCount(t *testing.T) {
	count := 0
	for r := rune(-1000); r <= utf8.MaxRune+1000; r++ {
		if Letter(r) {
			count++
		}
	}
	if count != letters {
		t.Errorf("there are %d letters, want %d", count, letters)
	}
}

// P3.1: a letter at the first place, letters, digits and _ behind it.
func TestName(t *testing.T) {
	right := []string{
		"a", "z", "A", "Z", "Α", "ω", "λ1", "a_", "a__", "a0", "a9", "a_0", "a0_", "Z_9z", "aΑ", "ωa",
		"get_item", "GetItem", "\u03a2", "a\u03a2", "x\u0391\u03c9", "int", "Message", "a1b2c3",
	}
	wrong := []string{
		"", "1a", "0", "9", "_", "_a", "__", "1", "é", "aé", "éa", "a.b", ".a", "a.", "a b", " a", "a ", "a-b",
		"a/", "a:", "a`", "a{", "a@", "a[", "`", "{", "@", "[", "a\x00", "\x00", "a\n", "a\t", "ΐ", "aΐ", "ϊ", "aϊ",
		"\ufffd", "a\ufffd", "\ufeffa", "a\u0301", "٣", "a٣", "a＿", "ａ", "😀",
	}
	for _, s := range right {
		if !Name(s) {
			t.Errorf("Name(%q) = false", s)
		}
	}
	for _, s := range wrong {
		if Name(s) {
			t.Errorf("Name(%q) = true", s)
		}
	}
}

// P3.1: each rune, at the first place and behind it.
func TestNameEachRune(t *testing.T) {
	for r := rune(0); r <= utf8.MaxRune; r++ {
		more := r == '_' || r >= '0' && r <= '9'
		if got := Name(string(r)); got != Letter(r) {
			t.Errorf("Name of the rune %#x alone = %t", r, got)
		}
		if got := Name("a" + string(r)); got != (Letter(r) || more) {
			t.Errorf("Name of a and the rune %#x = %t", r, got)
		}
	}
}

// P3.1: a name has up to MaxName runes, however many bytes these are.
func TestNameLength(t *testing.T) {
	for _, unit := range []string{"a", "Z", "ω", "Α", "aω", "a_", "b7"} {
		long := strings.Repeat(unit, 2*api.MaxName)
		var ends []int
		for at := range long {
			ends = append(ends, at)
		}
		for _, size := range []int{1, 2, api.MaxName/2 + 1, api.MaxName - 1, api.MaxName, api.MaxName + 1, api.MaxName + 2} {
			s := long[:ends[size]]
			if got := Name(s); got != (size <= api.MaxName) {
				t.Errorf("Name of %d runes, %q = %t", size, s, got)
			}
		}
	}
	for _, tail := range []string{"_", "0", "ω", "\xff", " ", "."} {
		if s := strings.Repeat("a", api.MaxName) + tail; Name(s) {
			t.Errorf("Name(%q) = true", s)
		}
	}
	if Name(strings.Repeat("a", 1<<20)) {
		t.Error("a very long text is a name")
	}
}

// P3.1: each reserved word is one, and a name; words beside it are none.
func TestReserved(t *testing.T) {
	for _, s := range reserved {
		if !Reserved(s) || !Name(s) {
			t.Errorf("%q: Reserved %t, Name %t", s, Reserved(s), Name(s))
		}
		beside := []string{
			s + "_", s + "s", "_" + s, "a" + s, s[1:], s[:len(s)-1], strings.ToUpper(s),
			strings.ToUpper(s[:1]) + s[1:], s + " ", " " + s, s + "\x00", s + "." + s, s + s, s + "\xff",
		}
		for _, b := range beside {
			if Reserved(b) && !slices.Contains(reserved, b) {
				t.Errorf("Reserved(%q) = true", b)
			}
		}
	}
	for _, s := range []string{
		"", "int", "int32", "uint32", "sint32", "fixed", "float", "double", "text", "return", "messages",
		"import", "package", "map", "oneof", "optional", "stream", "true", "λ", "\xff", "a",
	} {
		if Reserved(s) {
			t.Errorf("Reserved(%q) = true", s)
		}
	}
}

func checkPath(t *testing.T, s string, want ...string) {
	t.Helper()
	if names, ok := Path(s); !ok || !slices.Equal(names, want) {
		t.Errorf("Path(%q) = %q, %t, want %q", s, names, ok, want)
	}
}

// P3.1: a path's names in order, from one to MaxNest of them.
func TestPath(t *testing.T) {
	checkPath(t, "a", "a")
	checkPath(t, "a.B.c", "a", "B", "c")
	checkPath(t, "a.a", "a", "a")
	checkPath(t, "λ1.a_.ω", "λ1", "a_", "ω")
	checkPath(t, "Message.int", "Message", "int")
	checkPath(t, "message_.xenum", "message_", "xenum")
	longest := strings.Repeat("ω", api.MaxName)
	for count := 1; count <= api.MaxNest; count++ {
		for _, name := range []string{"a", "b_2", longest} {
			names := slices.Repeat([]string{name}, count)
			names[count-1] = "last"
			checkPath(t, strings.Join(names, "."), names...)
		}
	}
	checkPath(t, "a.b.c.d.e.f.g.h", "a", "b", "c", "d", "e", "f", "g", "h")
}

// P3.1: what is no path has no names.
func TestNoPath(t *testing.T) {
	wrong := []string{
		"", ".", "..", "a.", ".a", "a..b", "a.b.", ".a.b", "..a", "a..", ".a.", "a,b", "a. b", "a .b", " a", "a ", "a.b\n",
		"1", "a.1", "1.a", "_.a", "a._", "a.é", "é", "a.b-c", "a/b", "a\x00.b", "a。b", "a.b.c.d.e.f.g.h.i",
		"a.b.c.d.e.f.g.h.", ".a.b.c.d.e.f.g.h", "a.b.c.d.e.f.g.", "a.b.c.d.e.f.g.h.i.j.k", "a.b.c.d.e.f.g.1",
		strings.Repeat("a", api.MaxName+1), "a." + strings.Repeat("ω", api.MaxName+1), strings.Repeat("b", api.MaxName+1) + ".a",
		strings.Repeat("a.", 1<<20), strings.Repeat(".", 1<<20), strings.Repeat("a", 1<<20),
	}
	for _, word := range reserved {
		wrong = append(wrong, word, word+".a", "a."+word, "a."+word+".b", "a.b.c.d.e.f.g."+word)
	}
	for _, bad := range invalid {
		wrong = append(wrong, bad, "a."+bad, bad+".a", "a"+bad+".b", "a."+bad+"b")
	}
	for _, s := range wrong {
		if names, ok := Path(s); ok || len(names) != 0 {
			t.Errorf("Path(%.60q) = %q, %t", s, names, ok)
		}
	}
}

// R3: each answer of Path is memory of its own, spare room too.
func TestPathMakesNewMemory(t *testing.T) {
	for _, s := range []string{"a", "a.b", "a.b.c.d.e.f.g.h"} {
		first, _ := Path(s)
		want := slices.Clone(first)
		second, _ := Path(s)
		room := second[:cap(second)]
		for i := range room {
			room[i] = "x"
		}
		third, ok := Path(s)
		if !slices.Equal(first, want) || !slices.Equal(third, want) || !ok {
			t.Errorf("Path(%q) shares its answers: %q, %q", s, first, third)
		}
	}
}

// P3.1: how many runes a valid text has, whatever runes they are.
func TestRunes(t *testing.T) {
	for s, want := range map[string]int{
		"": 0, "a": 1, "ab": 2, "λa": 2, "λ": 1, "é": 1, "e\u0301": 2, "\x00": 1, "a\nb": 3, "\x7f\u0080": 2,
		"\u07ff\u0800": 2, "\ufffd": 1, "\uffff": 1, "\U00010000": 1, "\U0010ffff": 1, "\ud7ff\ue000": 2, "😀a😀": 3,
		strings.Repeat("ω", 10000): 10000, "1 _.": 4,
	} {
		if n, ok := Runes(s); n != want || !ok {
			t.Errorf("Runes(%.20q) = %d, %t, want %d", s, n, ok, want)
		}
	}
}

// P3.1: a text that isn't valid has no runes that count, and is no name.
func TestInvalid(t *testing.T) {
	for _, bad := range invalid {
		for _, s := range []string{bad, "a" + bad, bad + "a", "a" + bad + "a", "λ" + bad + "😀"} {
			if n, ok := Runes(s); n != 0 || ok {
				t.Errorf("Runes(%q) = %d, %t", s, n, ok)
			}
			if Name(s) || Reserved(s) || Camel(s) != "" || Snake(s) != "" {
				t.Errorf("%q: Name %t, Reserved %t, Camel %q, Snake %q", s, Name(s), Reserved(s), Camel(s), Snake(s))
			}
		}
	}
}

// P3.2: Camel, with _ at each place, and with letters that have no great one here.
func TestCamel(t *testing.T) {
	for s, want := range map[string]string{
		"get_item": "GetItem", "a": "A", "z": "Z", "A": "A", "Z": "Z", "ab": "Ab", "aB": "AB", "AB": "AB", "GetItem": "GetItem",
		"a_": "A", "a__": "A", "a_b": "AB", "a__b": "AB", "a__b_": "AB", "a_b_c": "ABC", "ab_cd_ef": "AbCdEf", "ab_z": "AbZ",
		"a_B": "AB", "A_b": "AB", "aB_cD": "ABCD", "get_ITEM": "GetITEM", "m_y_z_": "MYZ",
		"a_1": "A1", "a_1b": "A1b", "a1b": "A1b", "a_1_b": "A1B", "a1_b": "A1B", "x9": "X9", "a_0a": "A0a",
		"λ": "λ", "λ_b": "λB", "λb": "λb", "b_λ": "Bλ", "b_λb": "Bλb", "λ_λ_": "λλ", "ω_α": "ωα", "Ω_a": "ΩA", "aλ_a": "AλA",
		"message": "Message", "int64": "Int64", "a_rpc": "ARpc",
		"1": "", "": "", "_": "", "_a": "", "1a": "", "é": "", "a_é": "", "a.b": "", "a b": "", "get-item": "",
	} {
		if got := Camel(s); got != want {
			t.Errorf("Camel(%q) = %q, want %q", s, got, want)
		}
	}
	all := "abcdefghijklmnopqrstuvwxyz"
	for i := range all {
		small, great := all[i:i+1], strings.ToUpper(all[i:i+1])
		if got := Camel(small + "_" + small + small); got != great+great+small {
			t.Errorf("Camel of the letter %s = %q", small, got)
		}
	}
}

// P3.2: names of MaxName runes, and of one more, by Camel.
func TestCamelLength(t *testing.T) {
	if s := strings.Repeat("a", api.MaxName); Camel(s) != "A"+s[1:] {
		t.Errorf("Camel(%q) = %q", s, Camel(s))
	}
	if s := strings.Repeat("ω", api.MaxName); Camel(s) != s {
		t.Errorf("Camel(%q) = %q", s, Camel(s))
	}
	if s := strings.Repeat("a_", api.MaxName/2); Camel(s) != strings.Repeat("A", api.MaxName/2) {
		t.Errorf("Camel(%q) = %q", s, Camel(s))
	}
	// Without its _ it would be short enough: it is no name for all that.
	for _, s := range []string{strings.Repeat("a", api.MaxName+1), "a" + strings.Repeat("_", api.MaxName)} {
		if Camel(s) != "" {
			t.Errorf("Camel(%q) = %q", s, Camel(s))
		}
	}
}

// P3.2: Snake, with great letters and _ at each place; _ that stand there stay.
func TestSnake(t *testing.T) {
	for s, want := range map[string]string{
		"GetItem": "get_item", "a": "a", "A": "a", "Z": "z", "z": "z", "AB": "a_b", "ABC": "a_b_c", "aB": "a_b", "Ab": "ab",
		"get_item": "get_item", "Get_Item": "get__item", "A_B": "a__b", "A_": "a_", "a_": "a_", "a__": "a__", "a__B_": "a___b_",
		"aZ": "a_z", "ZA": "z_a", "AaZz": "aa_zz", "A1": "a1", "A1B": "a1_b", "a1b": "a1b", "a9Z": "a9_z", "X_9": "x_9",
		"λA": "λ_a", "λ": "λ", "Λ": "Λ", "aΛ": "aΛ", "AΛA": "aΛ_a", "ΩmegaA": "Ωmega_a", "ΑΒ": "ΑΒ", "λa": "λa",
		"Message": "message", "Int64": "int64",
		"": "", "1": "", "_A": "", "_": "", "1A": "", "é": "", "Aé": "", "A.B": "", "A B": "", "Get-Item": "",
	} {
		if got := Snake(s); got != want {
			t.Errorf("Snake(%q) = %q, want %q", s, got, want)
		}
	}
	all := "ABCDEFGHIJKLMNOPQRSTUVWXYZ"
	for i := range all {
		great, small := all[i:i+1], strings.ToLower(all[i:i+1])
		if got := Snake(great + small + great); got != small+small+"_"+small {
			t.Errorf("Snake of the letter %s = %q", great, got)
		}
	}
}

// P3.2: what Snake makes may have MaxName runes, whatever bytes, and not one more.
func TestSnakeLength(t *testing.T) {
	half := api.MaxName / 2
	for s, want := range map[string]string{
		strings.Repeat("a", api.MaxName):                 strings.Repeat("a", api.MaxName),
		strings.Repeat("ω", api.MaxName):                 strings.Repeat("ω", api.MaxName),
		"A" + strings.Repeat("a", api.MaxName-1):         strings.Repeat("a", api.MaxName),
		"A" + strings.Repeat("ω", api.MaxName-1):         "a" + strings.Repeat("ω", api.MaxName-1),
		strings.Repeat("ω", api.MaxName-2) + "A":         strings.Repeat("ω", api.MaxName-2) + "_a",
		strings.Repeat("ω", api.MaxName-1) + "A":         "",
		strings.Repeat("a", api.MaxName-2) + "Z":         strings.Repeat("a", api.MaxName-2) + "_z",
		strings.Repeat("a", api.MaxName-1) + "Z":         "",
		strings.Repeat("A", half):                        "a" + strings.Repeat("_a", half-1),
		strings.Repeat("A", half) + "b":                  "a" + strings.Repeat("_a", half-1) + "b",
		strings.Repeat("A", half) + "bc":                 "",
		"b" + strings.Repeat("A", half-1):                "b" + strings.Repeat("_a", half-1),
		"bc" + strings.Repeat("A", half-1):               "bc" + strings.Repeat("_a", half-1),
		"b" + strings.Repeat("A", half):                  "",
		strings.Repeat("A", half+1):                      "",
		strings.Repeat("A", api.MaxName):                 "",
		strings.Repeat("a", api.MaxName+1):               "",
		"A" + strings.Repeat("Ω", api.MaxName-1):         "a" + strings.Repeat("Ω", api.MaxName-1),
		"A" + strings.Repeat("Ω", api.MaxName-2) + "_":   "a" + strings.Repeat("Ω", api.MaxName-2) + "_",
		"AB" + strings.Repeat("_", api.MaxName-3):        "a_b" + strings.Repeat("_", api.MaxName-3),
		"AB" + strings.Repeat("_", api.MaxName-2):        "",
		strings.Repeat("A", 1<<20):                       "",
		"A" + strings.Repeat("\xff", api.MaxName-1):      "",
		strings.Repeat("9", api.MaxName):                 "",
		"a" + strings.Repeat("9", api.MaxName-3) + "Z":   "a" + strings.Repeat("9", api.MaxName-3) + "_z",
		"a" + strings.Repeat("9", api.MaxName-3) + "Z_":  "",
		"a" + strings.Repeat("9", api.MaxName-3) + "zz_": "",
	} {
		if got := Snake(s); got != want {
			t.Errorf("Snake(%.50q) = %q, want %q", s, got, want)
		}
	}
}

// R2: an answer hangs on the argument alone, not on what was asked ahead of it.
func TestAskedAgain(t *testing.T) {
	for range 2 {
		for _, s := range []string{"get_item", "", "GetItem", "\xff", "λ1.a", strings.Repeat("A", 21)} {
			Path(s)
			Runes(s)
			Reserved(s)
		}
		if Camel("get_item") != "GetItem" || Snake("GetItem") != "get_item" || !Name("λ1") || Name("1a") || Name("é") {
			t.Error("the chapter's examples don't hold")
		}
	}
}
