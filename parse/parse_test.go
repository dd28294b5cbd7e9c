package parse

import (
	"math/rand"
	"reflect"
	"slices"
	"strconv"
	"strings"
	"testing"
	"unsafe"

	"courier/api"
	"courier/lex"
)

// most is the greatest number that is a word.
const most = 2147483647

var typeWords = []string{"int64", "uint64", "sint64", "bool", "string", "bytes", "fixed32", "fixed64"}

var otherReserved = []string{"message", "enum", "service", "rpc", "returns", "repeated"}

// tails may stand behind the last word of a text.
var tails = []string{
	"", " ", "\t", "\n", "  \t ", "\n\n", " \n\t\n  ", "// x", "//", "\n// λ😀é", "// \xff\xce", "// x\n", "//\xff\n ", "\n//\n//a\n\t",
}

func pos(line, col int) api.Pos { return api.Pos{Line: line, Col: col} }

// endOf answers the place behind the last rune of s, rune by rune.
func endOf(s string) api.Pos {
	at := pos(1, 1)
	for _, r := range s {
		at.Col++
		if r == '\n' {
			at = pos(at.Line+1, 1)
		}
	}
	return at
}

// like answers whether a and b are alike, as P5.2 says of Same, but apart from it.
func like(a, b []Decl) bool {
	if len(a) != len(b) {
		return false
	}
	for i := range a {
		x, y := a[i], b[i]
		if !like(x.Inner, y.Inner) {
			return false
		}
		x.Inner, y.Inner = nil, nil
		for _, d := range []*Decl{&x, &y} {
			d.Fields = append([]Field{}, d.Fields...)
			d.Values = append([]Value{}, d.Values...)
			d.Methods = append([]Method{}, d.Methods...)
		}
		if !reflect.DeepEqual(x, y) {
			return false
		}
	}
	return true
}

func checkFile(t *testing.T, s string, want ...Decl) {
	t.Helper()
	list, at, err := File(s)
	if err != api.OK || at != (api.Pos{}) || !like(list, want) {
		t.Errorf("File(%.200q) = %+v, %v, %d, want %+v", s, list, at, err, want)
	}
}

func checkRight(t *testing.T, s string) []Decl {
	t.Helper()
	list, at, err := File(s)
	if err != api.OK || at != (api.Pos{}) {
		t.Errorf("File(%.200q) answers %v, %d", s, at, err)
	}
	return list
}

func checkFault(t *testing.T, s string, want api.Pos, wantErr api.Errno) {
	t.Helper()
	list, at, err := File(s)
	if err != wantErr || at != want || len(list) != 0 {
		t.Errorf("File(%.200q) = %d declarations, %v, %d, want the error %d at %v", s, len(list), at, err, wantErr, want)
	}
}

// checkMark asks for a fault at the ^ in s, which is taken out.
func checkMark(t *testing.T, s string, want api.Errno) {
	t.Helper()
	ahead, rest, ok := strings.Cut(s, "^")
	if !ok {
		t.Fatalf("%q has no mark", s)
	}
	checkFault(t, ahead+rest, endOf(ahead), want)
}

// P5.1: the chapter's examples.
func TestExamples(t *testing.T) {
	checkFile(t, "message A { int64 x = 1; }",
		Decl{Kind: 1, Name: "A", At: pos(1, 9), Fields: []Field{{Type: "int64", Name: "x", Number: 1, At: pos(1, 19)}}})
	checkFault(t, "message A {", pos(1, 12), api.ErrSyntax)
	checkFault(t, "message message {}", pos(1, 9), api.ErrSyntax)
}

// sample has something of everything; sampleDecls is what it declares.
const sample = `// first
message A {
	repeated B.C x = 1; enum E { z = 0; λ = 2147483647; }
	message D { D d = 0; message F {} }
	int64 y = 2; // y
}
enum G { a = 0; }
service S { rpc m(A) returns (A . D); rpc n (A.D.F)
	returns(A); }
enum H {} service T {} message I{string s=3;}
`

func sampleDecls() []Decl {
	return []Decl{
		{Kind: 1, Name: "A", At: pos(2, 9), Fields: []Field{
			{Repeated: true, Type: "B.C", Name: "x", Number: 1, At: pos(3, 15)},
			{Type: "int64", Name: "y", Number: 2, At: pos(5, 8)},
		}, Inner: []Decl{
			{Kind: 2, Name: "E", At: pos(3, 27), Values: []Value{{"z", 0, pos(3, 31)}, {"λ", most, pos(3, 38)}}},
			{Kind: 1, Name: "D", At: pos(4, 10), Fields: []Field{{Type: "D", Name: "d", At: pos(4, 16)}},
				Inner: []Decl{{Kind: 1, Name: "F", At: pos(4, 31)}}},
		}},
		{Kind: 2, Name: "G", At: pos(7, 6), Values: []Value{{"a", 0, pos(7, 10)}}},
		{Kind: 3, Name: "S", At: pos(8, 9), Methods: []Method{
			{"m", "A", "A.D", pos(8, 17)}, {"n", "A.D.F", "A", pos(8, 43)},
		}},
		{Kind: 2, Name: "H", At: pos(10, 6)},
		{Kind: 3, Name: "T", At: pos(10, 19)},
		{Kind: 1, Name: "I", At: pos(10, 32), Fields: []Field{{Type: "string", Name: "s", Number: 3, At: pos(10, 41)}}},
	}
}

// P5.1: all that a file may have, in its order and with its places.
func TestSample(t *testing.T) {
	checkFile(t, sample, sampleDecls()...)
}

// P5.1: files without declarations.
func TestNoDeclarations(t *testing.T) {
	for _, s := range tails {
		checkFile(t, s)
	}
}

// P5.1: declarations with nothing in them.
func TestEmptyDeclarations(t *testing.T) {
	for kind, word := range []string{1: "message", 2: "enum", 3: "service"} {
		if word == "" {
			continue
		}
		at := pos(1, len(word)+2)
		checkFile(t, word+" λ_1{}", Decl{Kind: kind, Name: "λ_1", At: at})
		checkFile(t, word+"\n\n A // {\n{ // }\n}//", Decl{Kind: kind, Name: "A", At: pos(3, 2)})
		checkFile(t, word+" A {}"+word+" A {}", Decl{Kind: kind, Name: "A", At: at},
			Decl{Kind: kind, Name: "A", At: pos(1, 2*len(word)+7)})
		if kind != 3 {
			checkFile(t, "message O { "+word+" A {} }", Decl{Kind: 1, Name: "O", At: pos(1, 9),
				Inner: []Decl{{Kind: kind, Name: "A", At: pos(1, len(word)+14)}}})
		}
	}
	checkMark(t, "message A {}^;", api.ErrSyntax)
	checkMark(t, "message A {}^}", api.ErrSyntax)
	checkMark(t, "message A ^;", api.ErrSyntax)
	checkMark(t, "message ^{}", api.ErrSyntax)
	checkMark(t, "enum E { ^; }", api.ErrSyntax)
	checkMark(t, "message A { ^; }", api.ErrSyntax)
	checkMark(t, "service S { ^; }", api.ErrSyntax)
}

// P5.1: fields, messages and enums lie in a message in any order, and each
// list keeps its own.
func TestMembersInAnyOrder(t *testing.T) {
	members := []string{"int64 a = 1; ", "enum B { v = 7; } ", "message C { enum X {} bool y = 4; } ", "repeated p.q d = 2; ", "message E {} ", "enum F {} "}
	var arrange func(ahead, rest []string)
	arrange = func(ahead, rest []string) {
		if len(rest) == 0 {
			checkMembers(t, ahead)
			return
		}
		for i, m := range rest {
			others := append(append([]string{}, rest[:i]...), rest[i+1:]...)
			arrange(append(slices.Clone(ahead), m), others)
		}
	}
	arrange(nil, members)
	checkMembers(t, []string{members[0], members[0], members[1], members[1], members[2], members[2]})
}

// checkMembers asks that a message of these members has them all in order.
func checkMembers(t *testing.T, members []string) {
	t.Helper()
	s := "message A { "
	want := Decl{Kind: 1, Name: "A", At: pos(1, 9)}
	for _, m := range members {
		col := len(s) + 1
		switch m[len(m)-3] {
		case '1':
			want.Fields = append(want.Fields, Field{Type: "int64", Name: "a", Number: 1, At: pos(1, col+6)})
		case '2':
			want.Fields = append(want.Fields, Field{Repeated: true, Type: "p.q", Name: "d", Number: 2, At: pos(1, col+13)})
		default:
			d := checkRight(t, strings.Repeat(" ", len(s))+m)[0]
			want.Inner = append(want.Inner, d)
		}
		s += m
	}
	checkFile(t, s+"}", want)
}

// P5.1: what may not lie in a declaration.
func TestWrongMembers(t *testing.T) {
	for _, s := range []string{
		"message A { ^service S {} }",
		"message A { message B { ^service S {} } }",
		"message A { int64 x = 1; ^service S {} }",
		"message A { ^rpc m(A) returns (A); }",
		"message A { ^returns x = 1; }",
		"message A { x ^= 0; }",
		"enum E { ^message A {} }",
		"enum E { ^enum F {} }",
		"enum E { ^service S {} }",
		"enum E { ^int64 x = 1; }",
		"enum E { a ^x = 1; }",
		"enum E { a^.b = 1; }",
		"enum E { ^repeated a = 1; }",
		"enum E { ^rpc m(A) returns (A); }",
		"service S { ^message A {} }",
		"service S { ^enum E {} }",
		"service S { ^service T {} }",
		"service S { ^int64 x = 1; }",
		"service S { ^a x = 1; }",
		"service S { ^m(A) returns (A); }",
		"^rpc m(A) returns (A);",
		"^int64 x = 1;",
		"^a x = 1;",
		"^repeated a x = 1;",
		"^returns",
		"^A",
		"^1",
		"^{}",
		"^}",
		"^;",
	} {
		checkMark(t, s, api.ErrSyntax)
	}
}

// P5.1: each of the reserved words as a type.
func TestReservedTypes(t *testing.T) {
	for _, word := range typeWords {
		n := len(word)
		checkFile(t, "message A { "+word+" x = 1; }", Decl{Kind: 1, Name: "A", At: pos(1, 9),
			Fields: []Field{{Type: word, Name: "x", Number: 1, At: pos(1, 14+n)}}})
		checkFile(t, "message A { repeated "+word+" x = 1; }", Decl{Kind: 1, Name: "A", At: pos(1, 9),
			Fields: []Field{{Repeated: true, Type: word, Name: "x", Number: 1, At: pos(1, 23+n)}}})
		checkMark(t, "message A { "+word+"^.b x = 1; }", api.ErrSyntax)
		checkMark(t, "message A { "+word+" ^= 1; }", api.ErrSyntax)
		checkMark(t, "message A { "+word+" ^"+word+" = 1; }", api.ErrSyntax)
		checkMark(t, "message A { a.^"+word+" x = 1; }", api.ErrSyntax)
		checkMark(t, "service S { rpc m(^"+word+") returns (A); }", api.ErrSyntax)
		checkMark(t, "service S { rpc m(A) returns (^"+word+"); }", api.ErrSyntax)
		// Like a reserved word, but none.
		for _, name := range []string{strings.ToUpper(word), word + "_", word + "0", "x" + word} {
			checkRight(t, "message "+name+" { "+name+" "+name+" = 1; }")
		}
	}
	for _, word := range otherReserved {
		checkMark(t, "message A { repeated ^"+word+" x = 1; }", api.ErrSyntax)
		checkMark(t, "message A { repeated a.^"+word+" x = 1; }", api.ErrSyntax)
	}
	for _, word := range []string{"service", "rpc", "returns"} {
		checkMark(t, "message A { ^"+word+" x = 1; }", api.ErrSyntax)
	}
	// These three go on, but otherwise than a type.
	checkMark(t, "message A { message x ^= 1; }", api.ErrSyntax)
	checkMark(t, "message A { enum x ^= 1; }", api.ErrSyntax)
	checkMark(t, "message A { repeated x ^= 1; }", api.ErrSyntax)
	for _, word := range []string{"int32", "Int64", "uint32", "sint32", "float", "double", "map", "fixed", "text", "optional", "INT64", "strings"} {
		checkRight(t, "message A { "+word+" x = 1; "+word+".b y = 2; }")
	}
}

// P5.1: none of the reserved words is a NAME, wherever one stands.
func TestReservedNames(t *testing.T) {
	for _, word := range append(append([]string{}, typeWords...), otherReserved...) {
		for _, s := range []string{
			"message ^W {}",
			"enum ^W {}",
			"service ^W {}",
			"message A { message ^W {} }",
			"message A { enum ^W {} }",
			"message A { int64 ^W = 1; }",
			"message A { a.b ^W = 1; }",
			"message A { repeated a ^W = 1; }",
			"enum E { ^W = 0; }",
			"enum E { a = 0; ^W = 1; }",
			"service S { rpc ^W(A) returns (A); }",
			"service S { rpc m(^W) returns (A); }",
			"service S { rpc m(a.^W) returns (A); }",
			"service S { rpc m(A) returns (a.^W); }",
			"message A { a.^W x = 1; }",
			"message A { a.b.^W.c x = 1; }",
		} {
			checkMark(t, strings.ReplaceAll(s, "W", word), api.ErrSyntax)
			checkRight(t, strings.ReplaceAll(strings.ReplaceAll(s, "^", ""), "W", "W_"+word))
		}
	}
}

// P5.1: repeated, with and without a type behind it.
func TestRepeated(t *testing.T) {
	checkFile(t, "message A { repeated a x = 1; a y = 2; }", Decl{Kind: 1, Name: "A", At: pos(1, 9), Fields: []Field{
		{Repeated: true, Type: "a", Name: "x", Number: 1, At: pos(1, 24)}, {Type: "a", Name: "y", Number: 2, At: pos(1, 33)},
	}})
	for _, s := range []string{
		"message A { repeated ^= 1; }",
		"message A { repeated x ^= 1; }",
		"message A { repeated int64 ^= 1; }",
		"message A { repeated ^repeated int64 x = 1; }",
		"message A { repeated int64 ^repeated x = 1; }",
		"message A { int64 ^repeated x = 1; }",
		"message A { repeated ^message B {} }",
		"message A { repeated ^enum E {} }",
		"message A { repeated ^} ",
		"message A { repeated ^1 x = 1; }",
		"message A { repeated ^; }",
		"message A { repeated^.a x = 1; }",
		"^repeated message A {}",
		"service S { ^repeated rpc m(A) returns (A); }",
		"service S { rpc m(^repeated A) returns (A); }",
		"service S { rpc m(A) returns (^repeated A); }",
	} {
		checkMark(t, s, api.ErrSyntax)
	}
}

// names answers a path of count names.
func names(count int) string {
	return strings.TrimSuffix(strings.Repeat("λb.", count), ".")
}

// inPaths are the places where a path may stand, as @.
var inPaths = []string{
	"message A { @ x = 1; }",
	"message A { int64 a = 0;\n\trepeated @ x = 1; }",
	"message A { message B { @ x = 1; } }",
	"service S { rpc m(@) returns (A); }",
	"enum E {}\nservice S { rpc m(A) returns (@); }",
}

func pathAt(where, path string) string { return strings.ReplaceAll(where, "@", path) }

// P5.1: paths of one name, of MaxNest and of one more.
func TestPaths(t *testing.T) {
	for _, where := range inPaths {
		for count := 1; count <= api.MaxNest; count++ {
			path := names(count)
			list := checkRight(t, pathAt(where, path))
			if len(list) == 0 {
				continue
			}
			last := list[len(list)-1]
			for len(last.Inner) > 0 {
				last = last.Inner[0]
			}
			var got []string
			for _, f := range last.Fields {
				got = append(got, f.Type)
			}
			for _, m := range last.Methods {
				got = append(got, m.In, m.Out)
			}
			if !slices.Contains(got, path) {
				t.Errorf("the paths %q, want %q among them", got, path)
			}
			// Written with something between its words, it is the same path.
			wide := strings.ReplaceAll(path, ".", " \n.// .\n\t")
			if again := checkRight(t, pathAt(where, wide)); !like(Strip(again), Strip(list)) {
				t.Errorf("File(%q) = %+v", pathAt(where, wide), again)
			}
		}
		for _, count := range []int{api.MaxNest + 1, api.MaxNest + 2, 2 * api.MaxNest, 100, 1900} {
			checkMark(t, pathAt(where, "^"+names(count)), api.ErrDeep)
		}
	}
	checkFile(t, "message A { a . \n b x=1; }", Decl{Kind: 1, Name: "A", At: pos(1, 9),
		Fields: []Field{{Type: "a.b", Name: "x", Number: 1, At: pos(2, 4)}}})
}

// P5.1: paths that are broken, with not too many names ahead of that, and with
// too many: their beginning comes first then.
func TestBrokenPaths(t *testing.T) {
	// Each is wrong behind a dot.
	for _, bad := range []string{".", "=", "1", "int64", "message", "repeated", "(", ")", "{", "}", ";"} {
		for _, where := range inPaths {
			for _, count := range []int{1, 2, api.MaxNest - 1, api.MaxNest} {
				checkMark(t, pathAt(where, names(count)+".^"+bad), api.ErrSyntax)
				checkMark(t, pathAt(where, names(count)+".^"+bad+"."+names(api.MaxNest)), api.ErrSyntax)
			}
			for _, count := range []int{api.MaxNest + 1, api.MaxNest + 2, 50} {
				checkMark(t, pathAt(where, "^"+names(count)+"."+bad), api.ErrDeep)
			}
		}
	}
	// Each is wrong behind a path, for a field and for a method.
	for _, bad := range []string{"1", "int64", "message", "(", "{", "}", "repeated", "="} {
		for _, where := range inPaths {
			checkMark(t, pathAt(where, names(api.MaxNest)+" ^"+bad), api.ErrSyntax)
			checkMark(t, pathAt(where, "^"+names(api.MaxNest+1)+" "+bad), api.ErrDeep)
		}
	}
	for _, where := range inPaths {
		ahead, _, _ := strings.Cut(where, "@")
		for _, tail := range tails {
			all := ahead + names(api.MaxNest) + tail
			checkFault(t, all, endOf(all), api.ErrSyntax)
			all = ahead + names(api.MaxNest) + "." + tail
			checkFault(t, all, endOf(all), api.ErrSyntax)
			checkMark(t, ahead+"^"+names(api.MaxNest+1)+tail, api.ErrDeep)
			checkMark(t, ahead+"^"+names(api.MaxNest+1)+"."+tail, api.ErrDeep)
		}
		checkMark(t, pathAt(where, "^.a"), api.ErrSyntax)
		checkMark(t, pathAt(where, "a.^.b"), api.ErrSyntax)
	}
	checkMark(t, "message A { a. ^= 1; }", api.ErrSyntax)
	// No other name is a path.
	for _, s := range []string{"message A^.b {}", "enum A^.b {}", "service A^.b {}", "enum E { a^.b = 0; }", "service S { rpc m^.n(A) returns (A); }", "message A { int64 x^.y = 1; }"} {
		checkMark(t, s, api.ErrSyntax)
	}
}

// nested answers messages, each in the one ahead of it, with inside in the last.
func nested(depth int, inside string) string {
	return strings.Repeat("message M { ", depth) + inside + strings.Repeat(" }", depth)
}

// P5.1: messages MaxNest deep, and deeper ones.
func TestDepth(t *testing.T) {
	for depth := 1; depth <= api.MaxNest; depth++ {
		list := checkRight(t, nested(depth, "int64 x = 1; enum E { a = 0; } enum F {}"))
		for level := 1; level < depth; level++ {
			if len(list) != 1 || list[0].At != pos(1, 12*level-3) || len(list[0].Inner) != 1 || len(list[0].Fields) != 0 {
				t.Fatalf("depth %d, level %d: %+v", depth, level, list)
			}
			list = list[0].Inner
		}
		// An enum may lie in the deepest message, and so may two.
		if len(list) != 1 || len(list[0].Fields) != 1 || len(list[0].Inner) != 2 || list[0].Inner[0].Kind != 2 {
			t.Fatalf("depth %d: %+v", depth, list)
		}
	}
	for _, depth := range []int{api.MaxNest + 1, api.MaxNest + 2, 50, 500} {
		s := nested(depth, "")
		checkFault(t, s, pos(1, 12*api.MaxNest+1), api.ErrDeep)
		checkFault(t, "// λ\n\t"+s, pos(2, 12*api.MaxNest+2), api.ErrDeep)
	}
	side := strings.Repeat("message B {} enum C {} ", 20)
	checkRight(t, nested(api.MaxNest-1, side))
	checkRight(t, strings.Repeat(nested(api.MaxNest, "")+"\n", 20))
	checkMark(t, nested(api.MaxNest, "int64 x = 1; enum E {} ^message A {}"), api.ErrDeep)
	checkMark(t, nested(api.MaxNest-1, "message A {} message B { ^message C {} }"), api.ErrDeep)
	checkMark(t, nested(api.MaxNest, "")+nested(api.MaxNest, "^message A {}"), api.ErrDeep)
	// It is too deep by its first word, whatever comes behind that.
	for _, rest := range []string{"", " ", " A", " A {", " message", " =", " 1", " A ;", " A { int64 x = 1; }", "\n//"} {
		checkMark(t, strings.Repeat("message M { ", api.MaxNest)+"^message"+rest, api.ErrDeep)
	}
	checkMark(t, nested(api.MaxNest, "^service S {}"), api.ErrSyntax)
	checkMark(t, nested(api.MaxNest, "enum E { ^message A {} }"), api.ErrSyntax)
	checkMark(t, nested(api.MaxNest, "repeated ^message A {}"), api.ErrSyntax)
}

// P5.1: numbers from 0 to the greatest, of fields and values.
func TestNumbers(t *testing.T) {
	for _, n := range []int{0, 1, 9, 10, 255, 256, 19000, 65536, 536870911, 536870912, most - 1, most} {
		text := strconv.Itoa(n)
		checkFile(t, "message A { bool x = "+text+"; }", Decl{Kind: 1, Name: "A", At: pos(1, 9),
			Fields: []Field{{Type: "bool", Name: "x", Number: n, At: pos(1, 18)}}})
		checkFile(t, "enum E { x = "+text+"; }", Decl{Kind: 2, Name: "E", At: pos(1, 6),
			Values: []Value{{Name: "x", Number: n, At: pos(1, 10)}}})
	}
	for _, where := range []string{"message A { bool x = ^@; }", "enum E { x = ^@; }", "message A { enum E { x = ^@; } }"} {
		for _, bad := range []string{"2147483648", "01", "00", "-1", "+1", "0x1", "1_0", "1a", "99999999999999999999"} {
			checkMark(t, pathAt(where, bad), api.ErrLex)
		}
		for _, bad := range []string{"a", "=", ";", "{", "message", ". 1", "(1)"} {
			checkMark(t, pathAt(where, bad), api.ErrSyntax)
		}
	}
	checkMark(t, "message A { bool x = 1 ^2; }", api.ErrSyntax)
	checkMark(t, "message A { bool x = 1^.2; }", api.ErrSyntax)
	checkMark(t, "message A { bool x ^1; }", api.ErrSyntax)
	checkMark(t, "message A { bool ^1 = 1; }", api.ErrSyntax)
	checkMark(t, "message ^1 {}", api.ErrSyntax)
}

// P5.1: a text that ends too early, behind each of its words, and what stands
// between words behind that: the place is behind the last rune of it all.
func TestEndsTooEarly(t *testing.T) {
	for _, s := range []string{sample, "message A{repeated a.b c=1;enum E{z=0;}message D{}}", "enum E{z=0;y=1;}", "service S{rpc m(A.B)returns(C.D);rpc n(A)returns(B);}"} {
		words, _, _ := lex.Words(s)
		depth := 0
		for _, w := range words {
			ahead := s[:offset(s, w.At)+len(w.Text)]
			switch w.Text {
			case "{":
				depth++
			case "}":
				depth--
			}
			for _, tail := range tails {
				cut := ahead + tail
				if depth == 0 && w.Text == "}" {
					checkRight(t, cut)
				} else {
					checkFault(t, cut, endOf(cut), api.ErrSyntax)
				}
			}
		}
	}
	checkFault(t, "message A {\n", pos(2, 1), api.ErrSyntax)
	checkFault(t, "message λ", pos(1, 10), api.ErrSyntax)
	checkFault(t, "message λ // λλ", pos(1, 16), api.ErrSyntax)
	checkFault(t, "message λ // \xff\xff", pos(1, 16), api.ErrSyntax)
	checkFault(t, "\n\nenum\n  ", pos(4, 3), api.ErrSyntax)
}

// offset answers how many bytes of s lie ahead of the place at.
func offset(s string, at api.Pos) int {
	for i := range s {
		if endOf(s[:i]) == at {
			return i
		}
	}
	return len(s)
}

// P5.1: a wrong word at each place of each declaration, told by hand.
func TestWrongWords(t *testing.T) {
	for _, s := range []string{
		"message ^= A {}", "message ^{ }", "message A ^}", "message A ^B {}", "message A ^( {}", "message A ^1 {}", "message A { ^{ } }", "message A { ^( }",
		"message A { ^1 x = 1; }", "message A { ^. x = 1; }", "message A { a ^; }", "message A { a ^1 = 1; }", "message A { a x ^; }", "message A { a x ^1; }",
		"message A { a x ^y = 1; }", "message A { a x = ^; }", "message A { a x = ^= 1; }", "message A { a x = ^y; }", "message A { a x = 1 ^}", "message A { a x = 1 ^a y = 2; }",
		"message A { a x = 1;^; }", "message A { a x = 1; }^}", "message A {} ^B {}", "message A { a^( x = 1; }",
		"enum ^{}", "enum E ^;", "enum E { ^= 0; }", "enum E { a ^0; }", "enum E { a ^; }", "enum E { a = ^; }", "enum E { a = 0 ^}", "enum E { a = 0 ^b = 1; }",
		"enum E { a = 0;^; }", "enum E { ^1 = 0; }", "enum E { a = 0; }^;", "enum E { ^( }",
		"service ^{}", "service S ^( {}", "service S { ^( }", "service S { rpc ^(A) returns (A); }", "service S { rpc ^1(A) returns (A); }", "service S { rpc m ^A) returns (A); }",
		"service S { rpc m(^) returns (A); }", "service S { rpc m(A ^returns (A); }", "service S { rpc m(A ^B) returns (A); }", "service S { rpc m(A) ^(A); }", "service S { rpc m(A) ^return (A); }",
		"service S { rpc m(A) ^; }", "service S { rpc m(A) returns ^A; }", "service S { rpc m(A) returns (^); }", "service S { rpc m(A) returns (A ^; }", "service S { rpc m(A) returns (A) ^}",
		"service S { rpc m(A) returns (A) ^{} }", "service S { rpc m(A) returns (A) ^rpc n(A) returns (A); }", "service S { rpc m(A) returns (A);^; }", "service S { rpc m(^(A)) returns (A); }",
		"service S { rpc ^rpc(A) returns (A); }", "service S { rpc m(A) ^returnsx (A); }",
	} {
		checkMark(t, s, api.ErrSyntax)
		// Other declarations ahead move the place, and nothing else.
		checkMark(t, sample+"enum λ {} "+s, api.ErrSyntax)
	}
}

// P5.1: where layer 4 finds a fault there are no words, and that is told,
// whether it lies ahead of a fault of this layer or behind it.
func TestFaultsOfWords(t *testing.T) {
	long := strings.Repeat("a", api.MaxName+1)
	for _, bad := range []string{"é", "/x", "\xff", "01", "1a", "2147483648", "_", "-", long} {
		checkMark(t, "^"+bad, api.ErrLex)
		checkMark(t, "message ^"+bad+" {}", api.ErrLex)
		checkMark(t, "^"+bad+" message message {}", api.ErrLex)
		checkMark(t, "message message {}\n λ ^"+bad, api.ErrLex)
		checkMark(t, "message A {} ^"+bad, api.ErrLex)
		checkMark(t, "message A { ^"+bad, api.ErrLex)
		checkMark(t, nested(api.MaxNest+1, "")+" ^"+bad, api.ErrLex)
		checkMark(t, "^"+bad+" "+nested(api.MaxNest+1, ""), api.ErrLex)
		checkMark(t, "message A { "+names(api.MaxNest+1)+" ^"+bad+" x = 1; }", api.ErrLex)
		checkRight(t, "message A {} // "+bad)
	}
	many := strings.Repeat("enum E {} ", api.MaxTokens/4)
	if list := checkRight(t, many); len(list) != api.MaxTokens/4 {
		t.Errorf("%d declarations", len(list))
	}
	checkMark(t, many+"^enum", api.ErrLong)
	checkMark(t, many+"^;", api.ErrLong)
	checkMark(t, strings.Repeat(";", api.MaxTokens)+"^;", api.ErrLong)
	checkMark(t, "^"+strings.Repeat(";", api.MaxTokens), api.ErrSyntax)
	checkFault(t, strings.Repeat(" ", api.MaxSource+1), pos(1, 1), api.ErrLong)
	checkFault(t, " x"+strings.Repeat(" ", api.MaxSource), pos(1, 1), api.ErrLong)
	checkFile(t, strings.Repeat("\n", api.MaxSource))
	checkMark(t, strings.Repeat("\n", api.MaxSource-1)+"^x", api.ErrSyntax)
	checkMark(t, "enum"+strings.Repeat("\n", api.MaxSource-4)+"^", api.ErrSyntax)
}

// P5.1: of several faults the first along the words is told.
func TestFirstFault(t *testing.T) {
	deep := strings.Repeat("message M { ", api.MaxNest)
	far := names(api.MaxNest + 1)
	for _, c := range []struct {
		text string
		err  api.Errno
	}{
		{"^x message message {}", api.ErrSyntax},
		{"message ^message message {", api.ErrSyntax},
		{"message A { ^; ; }", api.ErrSyntax},
		{"message A { int64 x ^1 } }", api.ErrSyntax},
		{deep + "^message M { ; } }", api.ErrDeep},
		{deep + "^; message M {", api.ErrSyntax},
		{deep + "^message M { " + far + " x = 1; }", api.ErrDeep},
		{deep + "^" + far + " x = 1; message M {", api.ErrDeep},
		{deep + "^" + far + " message M {", api.ErrDeep},
		{deep + "a.^message M {", api.ErrSyntax},
		{"message A { ^" + far + " = 1; }", api.ErrDeep},
		{"message A { ^" + far + " x = ; }", api.ErrDeep},
		{"message A { ^" + far + "." + far + " x = 1; " + far + " x = 1; }", api.ErrDeep},
		{"message A { ^; " + far + " x = 1; }", api.ErrSyntax},
		{"service S { rpc m(^" + far + ") returns (" + far + "); }", api.ErrDeep},
		{"service S { rpc m(A) ^(" + far + "); }", api.ErrSyntax},
		{"service S { rpc m(A) returns (^" + far + " }", api.ErrDeep},
		{"service S { rpc m^{ (" + far + ")", api.ErrSyntax},
	} {
		checkMark(t, c.text, c.err)
		checkMark(t, "enum E {}\n"+c.text+" } ;", c.err)
	}
}

// rules tell, for a symbol and the next word's class, which symbols it is made
// of: a second reading, by a table and a stack. & stands for whatever class.
var rules = map[string]string{
	"file message": "message name { members }m file", "file enum": "enum name { values } file", "file service": "service name { methods } file", "file": "",
	"members message": "message name { members }m members", "members enum": "enum name { values } members", "members }": "",
	"members repeated": "repeated type name = number ; members", "members type": "type name = number ; members", "members name": "type name = number ; members",
	"type type": "basic", "type name": "path",
	"path name": "part more", "more .": ". part more", "more &": "",
	"values name": "name = number ; values", "values }": "",
	"methods rpc": "rpc name ( path ) returns ( path ) ; methods", "methods }": "",
}

func class(w lex.Word) string {
	switch {
	case slices.Contains(typeWords, w.Text):
		return "type"
	case slices.Contains(otherReserved, w.Text) || w.Kind == 3:
		return w.Text
	case w.Kind == 1:
		return "name"
	}
	return "number"
}

// reference answers the error of a text of these words, and at which of them.
func reference(words []lex.Word) (int, api.Errno) {
	stack := []string{"file"}
	depth, first, parts := 0, 0, 0
	for i := 0; ; {
		next := ""
		if i < len(words) {
			next = class(words[i])
		}
		if len(stack) == 0 {
			return 0, api.OK
		}
		top := stack[0]
		if made, ok := rules[strings.TrimSpace(top+" "+next)]; ok {
			stack = append(strings.Fields(made), stack[1:]...)
		} else if _, ok := rules[top+" &"]; ok {
			stack = stack[1:]
		} else if top == next || top == "part" && next == "name" || top == "}m" && next == "}" || top == "basic" && next == "type" {
			switch top {
			case "message":
				depth++
			case "}m":
				depth--
			case "part":
				parts++
			}
			if depth > api.MaxNest {
				return i, api.ErrDeep
			}
			if parts > api.MaxNest {
				return first, api.ErrDeep
			}
			stack = stack[1:]
			i++
		} else {
			return i, api.ErrSyntax
		}
		if top == "path" {
			first, parts = i, 0
		}
	}
}

// checkReference holds File against the second reading of s.
func checkReference(t *testing.T, s string) {
	t.Helper()
	words, at, err := lex.Words(s)
	if err == api.OK {
		var i int
		if i, err = reference(words); err != api.OK {
			at = endOf(s)
			if i < len(words) {
				at = words[i].At
			}
		}
	}
	list, gotAt, gotErr := File(s)
	if gotAt != at || gotErr != err || err != api.OK && len(list) != 0 {
		t.Errorf("File(%q) answers %d, %v, %d, want %v, %d", s, len(list), gotAt, gotErr, at, err)
	}
}

var vocabulary = []string{"message", "enum", "service", "rpc", "returns", "repeated", "int64", "fixed64", "a", "λ", "1", "{", "}", "(", ")", "=", ";", "."}

// P5.1: all short texts of all kinds of words.
func TestShortTexts(t *testing.T) {
	for _, ahead := range []string{"", "message A {", "enum E {", "service S {", strings.Repeat("message A {", api.MaxNest), "message A { " + names(api.MaxNest) + " "} {
		var grow func(s string, more int)
		grow = func(s string, more int) {
			checkReference(t, s)
			if more == 0 {
				return
			}
			for _, w := range vocabulary {
				grow(s+" "+w, more-1)
			}
		}
		grow(ahead, 3)
	}
}

// P5.1: a whole text with each of its words taken away, doubled, changed for
// another, or with another ahead of it, or cut off there.
func TestChangedTexts(t *testing.T) {
	for _, s := range []string{sample, nested(api.MaxNest, names(api.MaxNest)+" x = 1; enum E { a = 0; }"), "service S { rpc m (" + names(api.MaxNest) + ") returns (a) ; }"} {
		words, _, _ := lex.Words(s)
		var texts []string
		for _, w := range words {
			texts = append(texts, w.Text)
		}
		for i := range texts {
			change := func(middle ...string) {
				all := append(append(slices.Clone(texts[:i]), middle...), texts[i+1:]...)
				checkReference(t, strings.Join(all, " "))
				checkReference(t, strings.Join(all[:i+len(middle)], "\n"))
			}
			change()
			change(texts[i], texts[i])
			for _, w := range vocabulary {
				change(w)
				change(w, texts[i])
				change(".", w)
			}
		}
	}
}

// writer writes words with something between them, and tells where each stands.
type writer struct {
	text strings.Builder
	at   api.Pos
	dice *rand.Rand
	glue bool
}

func (w *writer) write(s string) {
	w.text.WriteString(s)
	for _, r := range s {
		w.at.Col++
		if r == '\n' {
			w.at = pos(w.at.Line+1, 1)
		}
	}
}

func (w *writer) word(s string) api.Pos {
	between := []string{"", "", "", " ", " ", "\n", "\t", "  ", "// é }\n", "\n//\n//\xff\n\t", "//λ\n"}[w.dice.Intn(11)]
	sign := strings.Contains("{}()=;.", s)
	if between == "" && w.glue && !sign {
		between = " "
	}
	w.write(between)
	at := w.at
	w.write(s)
	w.glue = !sign
	return at
}

func (w *writer) words(list ...string) {
	for _, s := range list {
		w.word(s)
	}
}

func (w *writer) path() string {
	path := ""
	for i := range 1 + w.dice.Intn(api.MaxNest) {
		if i > 0 {
			w.word(".")
			path += "."
		}
		name := w.name()
		w.word(name)
		path += name
	}
	return path
}

func (w *writer) name() string {
	return []string{"a", "B", "λ", "x1", "y_", "Message", "int", "ω9_ω", strings.Repeat("n", api.MaxName)}[w.dice.Intn(9)]
}

func (w *writer) number() int {
	n := []int{0, 1, 7, w.dice.Intn(most), most}[w.dice.Intn(5)]
	w.word(strconv.Itoa(n))
	return n
}

// declare writes a declaration that lies so deep, and answers it.
func (w *writer) declare(depth int) Decl {
	kinds := []int{1, 1, 1, 2, 3}
	if depth > api.MaxNest {
		kinds = []int{2}
	} else if depth > 1 {
		kinds = kinds[:4]
	}
	d := Decl{Kind: kinds[w.dice.Intn(len(kinds))], Name: w.name()}
	w.word([]string{"message", "enum", "service"}[d.Kind-1])
	d.At = w.word(d.Name)
	w.word("{")
	for range w.dice.Intn(4) {
		w.member(&d, depth)
	}
	w.word("}")
	return d
}

func (w *writer) member(d *Decl, depth int) {
	switch {
	case d.Kind == 2:
		v := Value{Name: w.name()}
		v.At = w.word(v.Name)
		w.word("=")
		v.Number = w.number()
		d.Values = append(d.Values, v)
	case d.Kind == 3:
		m := Method{Name: w.name()}
		w.word("rpc")
		m.At = w.word(m.Name)
		w.word("(")
		m.In = w.path()
		w.words(")", "returns", "(")
		m.Out = w.path()
		w.word(")")
		d.Methods = append(d.Methods, m)
	case w.dice.Intn(2) == 0:
		d.Inner = append(d.Inner, w.declare(depth+1))
		return
	default:
		f := Field{Repeated: w.dice.Intn(2) == 0, Name: w.name()}
		if f.Repeated {
			w.word("repeated")
		}
		if w.dice.Intn(2) == 0 {
			f.Type = typeWords[w.dice.Intn(len(typeWords))]
			w.word(f.Type)
		} else {
			f.Type = w.path()
		}
		f.At = w.word(f.Name)
		w.word("=")
		f.Number = w.number()
		d.Fields = append(d.Fields, f)
	}
	w.word(";")
}

// P5.1 and P5.2: what is written of any declarations is read as they are, with
// all places; and Same and Strip of these.
func TestWrittenDeclarations(t *testing.T) {
	var last []Decl
	for seed := range int64(3000) {
		w := writer{at: pos(1, 1), dice: rand.New(rand.NewSource(seed))}
		var want []Decl
		for range w.dice.Intn(4) {
			want = append(want, w.declare(1))
		}
		w.write(tails[w.dice.Intn(len(tails))])
		s := w.text.String()
		if _, _, err := lex.Words(s); err == api.ErrLong {
			continue
		}
		checkFile(t, s, want...)
		checkReference(t, s)
		list, _, _ := File(s)
		if !Same(list, want) || !Same(want, list) || Same(list, last) != like(list, last) {
			t.Errorf("Same of %q", s)
		}
		if bare := Strip(list); !like(bare, withoutPlaces(want)) || Same(bare, list) != (len(list) == 0) || !Same(bare, Strip(bare)) {
			t.Errorf("Strip of %q: %+v", s, bare)
		}
		last = list
	}
}

// withoutPlaces answers a copy of list with all places zero, apart from Strip.
func withoutPlaces(list []Decl) []Decl {
	out := slices.Clone(list)
	for i := range out {
		d := &out[i]
		d.At = api.Pos{}
		d.Fields, d.Values, d.Methods = slices.Clone(d.Fields), slices.Clone(d.Values), slices.Clone(d.Methods)
		for i := range d.Fields {
			d.Fields[i].At = api.Pos{}
		}
		for i := range d.Values {
			d.Values[i].At = api.Pos{}
		}
		for i := range d.Methods {
			d.Methods[i].At = api.Pos{}
		}
		d.Inner = withoutPlaces(d.Inner)
	}
	return out
}

// changes each change one part alone of what full answers.
var changes = map[string]func(d *Decl){
	"kind":             func(d *Decl) { d.Kind = 2 },
	"name":             func(d *Decl) { d.Name = "b" },
	"no name":          func(d *Decl) { d.Name = "" },
	"line":             func(d *Decl) { d.At.Line++ },
	"col":              func(d *Decl) { d.At.Col++ },
	"field repeated":   func(d *Decl) { d.Fields[1].Repeated = !d.Fields[1].Repeated },
	"field type":       func(d *Decl) { d.Fields[1].Type = "A" },
	"field name":       func(d *Decl) { d.Fields[1].Name = "A" },
	"field number":     func(d *Decl) { d.Fields[1].Number++ },
	"field line":       func(d *Decl) { d.Fields[1].At.Line++ },
	"field col":        func(d *Decl) { d.Fields[1].At.Col++ },
	"first field":      func(d *Decl) { d.Fields[0].Number++ },
	"fewer fields":     func(d *Decl) { d.Fields = d.Fields[:1] },
	"no fields":        func(d *Decl) { d.Fields = nil },
	"more fields":      func(d *Decl) { d.Fields = append(d.Fields, Field{}) },
	"fields turned":    func(d *Decl) { slices.Reverse(d.Fields) },
	"value name":       func(d *Decl) { d.Values[1].Name = "A" },
	"value number":     func(d *Decl) { d.Values[1].Number++ },
	"value line":       func(d *Decl) { d.Values[1].At.Line++ },
	"value col":        func(d *Decl) { d.Values[1].At.Col++ },
	"first value":      func(d *Decl) { d.Values[0].Number++ },
	"fewer values":     func(d *Decl) { d.Values = d.Values[:1] },
	"more values":      func(d *Decl) { d.Values = append(d.Values, Value{}) },
	"values turned":    func(d *Decl) { slices.Reverse(d.Values) },
	"method name":      func(d *Decl) { d.Methods[1].Name = "A" },
	"method in":        func(d *Decl) { d.Methods[1].In = "B" },
	"method out":       func(d *Decl) { d.Methods[1].Out = "A" },
	"method line":      func(d *Decl) { d.Methods[1].At.Line++ },
	"method col":       func(d *Decl) { d.Methods[1].At.Col++ },
	"method paths":     func(d *Decl) { m := &d.Methods[1]; m.In, m.Out = m.Out, m.In },
	"first method":     func(d *Decl) { d.Methods[0].In = "C" },
	"fewer methods":    func(d *Decl) { d.Methods = d.Methods[:1] },
	"more methods":     func(d *Decl) { d.Methods = append(d.Methods, Method{}) },
	"methods turned":   func(d *Decl) { slices.Reverse(d.Methods) },
	"inner kind":       func(d *Decl) { d.Inner[1].Kind++ },
	"inner name":       func(d *Decl) { d.Inner[1].Name = "A" },
	"inner col":        func(d *Decl) { d.Inner[1].At.Col++ },
	"inner field":      func(d *Decl) { d.Inner[1].Fields[0].At.Col++ },
	"inner value":      func(d *Decl) { d.Inner[1].Values[0].At.Col++ },
	"inner method":     func(d *Decl) { d.Inner[1].Methods[0].At.Col++ },
	"innermost line":   func(d *Decl) { d.Inner[1].Inner[0].At.Line++ },
	"innermost":        func(d *Decl) { d.Inner[1].Inner = nil },
	"fewer inner":      func(d *Decl) { d.Inner = d.Inner[:1] },
	"more inner":       func(d *Decl) { d.Inner = append(d.Inner, Decl{}) },
	"inner turned":     func(d *Decl) { slices.Reverse(d.Inner) },
	"nothing in it":    func(d *Decl) { d.Fields, d.Values, d.Methods, d.Inner = nil, nil, nil, nil },
	"in it, not by it": func(d *Decl) { d.Inner[0].Fields, d.Fields = d.Fields, d.Inner[0].Fields },
}

// full answers a declaration with two of everything in it, which File never does.
func full() Decl {
	inner := Decl{Kind: 2, Name: "I", At: pos(6, 1), Fields: []Field{{Name: "g", At: pos(6, 2)}}, Values: []Value{{"w", 1, pos(6, 3)}},
		Methods: []Method{{"o", "A", "A", pos(6, 4)}}, Inner: []Decl{{Kind: 1, Name: "K", At: pos(7, 1)}}}
	return Decl{
		Kind: 1, Name: "A", At: pos(1, 9),
		Fields:  []Field{{true, "int64", "x", 1, pos(2, 3)}, {false, "B.C", "y", 2, pos(2, 9)}},
		Values:  []Value{{"u", 0, pos(3, 1)}, {"v", 5, pos(3, 4)}},
		Methods: []Method{{"m", "A", "B", pos(4, 1)}, {"n", "A", "B", pos(4, 9)}},
		Inner:   []Decl{{Kind: 1, Name: "J", At: pos(5, 1)}, inner},
	}
}

// P5.2: declarations that differ in one part alone aren't the same.
func TestSame(t *testing.T) {
	variants := map[string][]Decl{"none": nil, "as it is": {full()}, "zero": {{}}, "two": {full(), full()}, "and zero": {full(), {}}, "zero and": {{}, full()}}
	for what, change := range changes {
		d := full()
		change(&d)
		variants[what] = []Decl{d}
		variants["second: "+what] = []Decl{full(), d}
	}
	for what, a := range variants {
		for other, b := range variants {
			if Same(a, b) != (what == other) {
				t.Errorf("Same of %q and %q: %v", what, other, Same(a, b))
			}
		}
		if !Same(a, slices.Clone(a)) {
			t.Errorf("%q isn't the same as its copy", what)
		}
	}
	// R4: no elements, nil or empty.
	empty := []Decl{{Fields: []Field{}, Values: []Value{}, Methods: []Method{}, Inner: []Decl{}}}
	if !Same(nil, nil) || !Same(nil, []Decl{}) || !Same([]Decl{}, nil) || !Same(empty, []Decl{{}}) || !Same([]Decl{{}}, empty) || Same(nil, empty) || Same(empty, nil) {
		t.Error("Same of lists without elements")
	}
	if a, b := checkRight(t, sample), sampleDecls(); !Same(a, b) || !Same(b, a) || Same(a[1:], b) || Same(a, checkRight(t, " "+strings.ReplaceAll(sample, "\t", "  "))) {
		t.Error("Same of what is read")
	}
}

// P5.2: Strip makes all places zero, and leaves all else.
func TestStrip(t *testing.T) {
	for what, change := range changes {
		d := full()
		change(&d)
		list := []Decl{d, full(), {}}
		got := Strip(list)
		if !like(got, withoutPlaces(list)) || !Same(got, withoutPlaces(list)) {
			t.Errorf("Strip of %q: %+v", what, got)
		}
		if again := Strip(got); !like(again, got) {
			t.Errorf("Strip, twice, of %q: %+v", what, again)
		}
	}
	for _, none := range [][]Decl{nil, {}} {
		if got := Strip(none); len(got) != 0 {
			t.Errorf("Strip of nothing: %+v", got)
		}
	}
	// Places alone may differ between texts of the same words.
	a := checkRight(t, sample)
	words, _, _ := lex.Words(sample)
	var spread strings.Builder
	for _, w := range words {
		spread.WriteString(w.Text + "\n\t")
	}
	b := checkRight(t, spread.String())
	if Same(a, b) || !Same(Strip(a), Strip(b)) || !like(Strip(a), withoutPlaces(sampleDecls())) {
		t.Errorf("Strip of what is read: %+v, %+v", Strip(a), Strip(b))
	}
}

// texts answers all texts of list.
func texts(list []Decl) []string {
	var all []string
	for _, d := range list {
		all = append(all, d.Name)
		for _, f := range d.Fields {
			all = append(all, f.Type, f.Name)
		}
		for _, v := range d.Values {
			all = append(all, v.Name)
		}
		for _, m := range d.Methods {
			all = append(all, m.Name, m.In, m.Out)
		}
		all = append(all, texts(d.Inner)...)
	}
	return all
}

// spoil writes over all of list, spare room too.
func spoil(list []Decl) {
	list = list[:cap(list)]
	for i := range list {
		d := &list[i]
		spoil(d.Inner)
		for j := range d.Fields[:cap(d.Fields)] {
			d.Fields[:cap(d.Fields)][j] = Field{Name: "spoilt"}
		}
		for j := range d.Values[:cap(d.Values)] {
			d.Values[:cap(d.Values)][j] = Value{Name: "spoilt"}
		}
		for j := range d.Methods[:cap(d.Methods)] {
			d.Methods[:cap(d.Methods)][j] = Method{Name: "spoilt"}
		}
		*d = Decl{Name: "spoilt"}
	}
}

func begin(s string) uintptr { return uintptr(unsafe.Pointer(unsafe.StringData(s))) }

// R2 and R3: answers hang on the arguments alone, and are new memory, spare room too.
func TestNewMemory(t *testing.T) {
	s := strings.Clone(sample)
	first := checkRight(t, s)
	for _, text := range texts(first) {
		if at := begin(text); at >= begin(s) && at < begin(s)+uintptr(len(s)) {
			t.Errorf("the text %q lies in the argument", text)
		}
	}
	spoil(first)
	File("message message")
	second := checkRight(t, s)
	if !like(second, sampleDecls()) {
		t.Errorf("another answer changed this one: %+v", second)
	}
	room := append(slices.Clip(second), full())[:len(second)]
	bare := Strip(room)
	old, now := texts(room), texts(bare)
	for i, text := range now {
		if begin(text) == begin(old[i]) {
			t.Errorf("the text %q lies in the argument", text)
		}
	}
	if !like(room, sampleDecls()) || !like(room[:len(room)+1][len(room):], []Decl{full()}) {
		t.Error("Strip changed its argument")
	}
	Same(room, bare)
	spoil(bare)
	if !like(room, sampleDecls()) {
		t.Error("Strip's answer shares memory with its argument")
	}
	// The lists of one answer are apart: what is put behind one stays out of the others.
	apart := checkRight(t, s)
	for i := range apart {
		want := withoutPlaces(apart)
		apart[i].Fields = append(apart[i].Fields, Field{})
		apart[i].Inner = append(apart[i].Inner, Decl{})
		want[i].Fields = append(want[i].Fields, Field{})
		want[i].Inner = append(want[i].Inner, Decl{})
		if !like(Strip(apart), want) {
			t.Errorf("the lists of %d share memory", i)
		}
	}
}

// R1: whatever declarations come, however deep they lie.
func TestWhateverDeclarations(t *testing.T) {
	chain := func(last string) []Decl {
		list := []Decl{{Name: last}}
		for range 1 << 16 {
			list = []Decl{{Kind: -1, Name: "\xff", Inner: list, At: pos(-1, most)}}
		}
		return list
	}
	a, b := chain("a"), chain("b")
	if !Same(a, chain("a")) || Same(a, b) || Same(Strip(a), a) || !Same(Strip(a), Strip(Strip(a))) {
		t.Error("Same of deep declarations")
	}
}

// P5.1 and P5.2, for whatever bytes a run of the fuzzer finds.
func FuzzFile(f *testing.F) {
	for _, s := range []string{"", sample, "message A {", "message message {}", nested(api.MaxNest+1, ""), "message A { " + names(9), "service S { rpc m(A) returns (A.D); }//\xff", "é"} {
		f.Add(s)
	}
	f.Fuzz(func(t *testing.T, s string) {
		checkReference(t, s)
		list, _, _ := File(s)
		if !Same(list, list) || !like(Strip(list), withoutPlaces(list)) {
			t.Errorf("Same or Strip of %q", s)
		}
	})
}
