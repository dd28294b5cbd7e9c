package print

import (
	"fmt"
	"math"
	"math/rand"
	"reflect"
	"slices"
	"strings"
	"testing"
	"unsafe"

	"courier/api"
	"courier/lex"
	"courier/parse"
)

// most is the greatest number that is a word.
const most = 2147483647

// longest is a name of as many bytes as one can have, and of as many runes.
var longest = strings.Repeat("ω", api.MaxName)

var typeWords = []string{"int64", "uint64", "sint64", "bool", "string", "bytes", "fixed32", "fixed64"}

var otherReserved = []string{"message", "enum", "service", "rpc", "returns", "repeated"}

func reservedWords() []string { return slices.Concat(typeWords, otherReserved) }

func message(name string, fields ...parse.Field) parse.Decl {
	return parse.Decl{Kind: 1, Name: name, Fields: fields}
}

func enum(name string, values ...parse.Value) parse.Decl {
	return parse.Decl{Kind: 2, Name: name, Values: values}
}

func service(name string, methods ...parse.Method) parse.Decl {
	return parse.Decl{Kind: 3, Name: name, Methods: methods}
}

// within answers the message name with inner in it.
func within(name string, inner ...parse.Decl) parse.Decl {
	return parse.Decl{Kind: 1, Name: name, Inner: inner}
}

// words are the words of declarations, as they stand, a path being one.
type words struct{ strings.Builder }

func (w *words) add(form string, parts ...any) { fmt.Fprintf(w, form, parts...) }

func (w *words) all(list []parse.Decl) {
	kinds := map[int]string{1: "message", 2: "enum", 3: "service"}
	for _, d := range list {
		w.add("%s %s { ", kinds[d.Kind], d.Name)
		for _, f := range d.Fields {
			if f.Repeated {
				w.add("repeated ")
			}
			w.add("%s %s = %d ; ", f.Type, f.Name, f.Number)
		}
		for _, v := range d.Values {
			w.add("%s = %d ; ", v.Name, v.Number)
		}
		for _, m := range d.Methods {
			w.add("rpc %s ( %s ) returns ( %s ) ; ", m.Name, m.In, m.Out)
		}
		w.all(d.Inner)
		w.add("} ")
	}
}

// wordsOf answers the words of declarations, with a blank behind each.
func wordsOf(list []parse.Decl) string {
	var w words
	w.all(list)
	return w.String()
}

// countOf answers how many words layer 4 finds in the text of formed declarations.
func countOf(list []parse.Decl) int {
	return len(strings.Fields(strings.ReplaceAll(wordsOf(list), ".", " . ")))
}

// textOf answers the text of formed declarations by another way than the
// program's: word by word, with tabs by the brackets that are open.
func textOf(list []parse.Decl) string {
	var text strings.Builder
	depth, last := 0, ""
	for _, word := range strings.Fields(wordsOf(list)) {
		if word == "}" {
			depth--
		}
		switch last {
		case "{", "}", ";":
			if text.WriteString("\n"); depth == 0 && word != "}" {
				text.WriteString("\n")
			}
			text.WriteString(strings.Repeat("\t", depth))
		case "", "(":
		default:
			if word != ";" && word != ")" && (word != "(" || last == "returns") {
				text.WriteString(" ")
			}
		}
		if word == "{" {
			depth++
		}
		text.WriteString(word)
		last = word
	}
	if last != "" {
		text.WriteString("\n")
	}
	return text.String()
}

// show answers the beginning of what list looks like.
func show(list []parse.Decl) string { return fmt.Sprintf("%.400s", fmt.Sprintf("%v", list)) }

// readBack answers whether layer 5 reads the words of list as just list: what
// P6.1 asks of Formed, for declarations that aren't too long for it.
func readBack(list []parse.Decl) bool {
	got, _, err := parse.File(wordsOf(list))
	return err == api.OK && parse.Same(parse.Strip(got), parse.Strip(list))
}

// checkText asks that list is formed and has the text want, by P6.1, and that
// this is read as list, by P6.2.
func checkText(t *testing.T, want string, list ...parse.Decl) {
	t.Helper()
	if !Formed(list) {
		t.Errorf("Formed(%s) is false", show(list))
	}
	s, err := File(list)
	if s != want || err != api.OK {
		t.Errorf("File(%s) = %.300q, %d, want %.300q", show(list), s, err, want)
	}
	again, at, err := parse.File(s)
	if err != api.OK || !parse.Same(parse.Strip(again), parse.Strip(list)) {
		t.Errorf("%.300q is read as %s, %v, %d, want %s", s, show(again), at, err, show(list))
	}
	if twice, err := File(again); twice != s || err != api.OK {
		t.Errorf("File, twice, of %s = %.300q, %d, want %.300q", show(list), twice, err, s)
	}
}

// checkRight asks that list is formed, and its text the one that textOf makes.
func checkRight(t *testing.T, list ...parse.Decl) {
	t.Helper()
	if !readBack(list) {
		t.Errorf("layer 5 doesn't read %s", show(list))
	}
	checkText(t, textOf(list), list...)
}

// checkWrong asks that list isn't formed.
func checkWrong(t *testing.T, list ...parse.Decl) {
	t.Helper()
	if Formed(list) {
		t.Errorf("Formed(%s) is true", show(list))
	}
	if s, err := File(list); s != "" || err != api.ErrArg {
		t.Errorf("File(%s) = %.300q, %d, want the error %d", show(list), s, err, api.ErrArg)
	}
}

// checkAll asks that list is formed, or not, as layer 5 says.
func checkAll(t *testing.T, list ...parse.Decl) {
	t.Helper()
	if readBack(list) {
		checkRight(t, list...)
	} else {
		checkWrong(t, list...)
	}
}

// checkLong asks that list is formed, and its text too long.
func checkLong(t *testing.T, list ...parse.Decl) {
	t.Helper()
	if !Formed(list) {
		t.Errorf("Formed(%s) is false", show(list))
	}
	if s, err := File(list); s != "" || err != api.ErrLong {
		t.Errorf("File(%s) = %.300q, %d, want the error %d", show(list), s, err, api.ErrLong)
	}
}

// P6.1: the chapter's example.
func TestExample(t *testing.T) {
	checkText(t, "message A {\n\trepeated B.C x = 1;\n}\n",
		message("A", parse.Field{Repeated: true, Type: "B.C", Name: "x", Number: 1}))
}

// sample has something of everything; sampleText is its text.
func sample() []parse.Decl {
	return []parse.Decl{
		{Kind: 1, Name: "A", Fields: []parse.Field{
			{Repeated: true, Type: "B.C", Name: "x", Number: 1},
			{Type: "int64", Name: "y", Number: 2},
		}, Inner: []parse.Decl{
			enum("E", parse.Value{Name: "z"}, parse.Value{Name: "λ", Number: most}),
			{Kind: 1, Name: "D", Fields: []parse.Field{{Type: "D", Name: "d"}}, Inner: []parse.Decl{message("F"), enum("G_1")}},
			enum("E"),
		}},
		enum("G", parse.Value{Name: "a"}),
		service("S", parse.Method{Name: "m", In: "A", Out: "A.D"}, parse.Method{Name: "n", In: "A.D.F", Out: "A"}),
		enum("H"),
		service("T"),
		message("I", parse.Field{Type: "string", Name: "s", Number: 3}),
		message("I"),
	}
}

const sampleText = `message A {
	repeated B.C x = 1;
	int64 y = 2;
	enum E {
		z = 0;
		λ = 2147483647;
	}
	message D {
		D d = 0;
		message F {
		}
		enum G_1 {
		}
	}
	enum E {
	}
}

enum G {
	a = 0;
}

service S {
	rpc m(A) returns (A.D);
	rpc n(A.D.F) returns (A);
}

enum H {
}

service T {
}

message I {
	string s = 3;
}

message I {
}
`

// P6.1 and P6.2: all that declarations may have, in its order.
func TestSample(t *testing.T) {
	checkText(t, sampleText, sample()...)
	checkRight(t, sample()...)
}

// P6.1: no declarations.
func TestNoDeclarations(t *testing.T) {
	checkText(t, "")
	checkText(t, "", []parse.Decl{}...)
	for _, none := range [][]parse.Decl{nil, {}, sample()[:0]} {
		if s, err := File(none); s != "" || err != api.OK || !Formed(none) {
			t.Errorf("File of nothing = %q, %d", s, err)
		}
	}
}

// P6.1: declarations with nothing in them, be their lists nil or empty.
func TestEmptyDeclarations(t *testing.T) {
	for kind, word := range map[int]string{1: "message", 2: "enum", 3: "service"} {
		for _, d := range []parse.Decl{
			{Kind: kind, Name: "A"},
			{Kind: kind, Name: "A", Fields: []parse.Field{}, Values: []parse.Value{}, Methods: []parse.Method{}, Inner: []parse.Decl{}},
		} {
			checkText(t, word+" A {\n}\n", d)
			if kind == 3 {
				checkWrong(t, within("B", d))
				continue
			}
			checkText(t, "message B {\n\t"+word+" A {\n\t}\n}\n", within("B", d))
			checkText(t, "message B {\n\t"+word+" A {\n\t}\n\t"+word+" A {\n\t}\n}\n", within("B", d, d))
		}
	}
}

// P6.1: an empty line stands ahead of each declaration that lies in nothing, but
// the first, and nowhere else.
func TestEmptyLines(t *testing.T) {
	ones := []parse.Decl{
		message("A"), enum("B"), service("C"),
		message("D", parse.Field{Type: "A", Name: "x"}), enum("E", parse.Value{Name: "v"}),
		service("F", parse.Method{Name: "m", In: "A", Out: "D"}), within("G", message("A"), enum("B")),
	}
	for _, a := range ones {
		alone, _ := File([]parse.Decl{a})
		checkText(t, textOf([]parse.Decl{a}), a)
		for _, b := range ones {
			other, _ := File([]parse.Decl{b})
			checkText(t, alone+"\n"+other, a, b)
			checkText(t, alone+"\n"+other+"\n"+alone, a, b, a)
		}
	}
	checkText(t, "enum A {\n}\n\nenum A {\n}\n\nenum A {\n}\n\nenum A {\n}\n", enum("A"), enum("A"), enum("A"), enum("A"))
	all, _ := File(ones)
	if got := strings.Count(all, "\n\n"); got != len(ones)-1 || strings.Contains(all, "\n\n\n") || strings.HasPrefix(all, "\n") || strings.HasSuffix(all, "\n\n") {
		t.Errorf("%d empty lines in %q", got, all)
	}
}

// nested answers depth messages in one another, with inner in the last one.
func nested(depth int, inner ...parse.Decl) parse.Decl {
	d := within("N", inner...)
	for range depth - 1 {
		d = within("N", d)
	}
	return d
}

// P6.1: messages in messages, MaxNest deep and one deeper, and what lies in the last.
func TestNested(t *testing.T) {
	for depth := 1; depth <= api.MaxNest; depth++ {
		ahead, behind := "", ""
		for tabs := range depth {
			ahead += strings.Repeat("\t", tabs) + "message N {\n"
			behind = strings.Repeat("\t", tabs) + "}\n" + behind
		}
		tab := strings.Repeat("\t", depth)
		checkText(t, ahead+behind, nested(depth))
		checkText(t, ahead+tab+"enum E {\n"+tab+"\tv = 7;\n"+tab+"}\n"+behind, nested(depth, enum("E", parse.Value{Name: "v", Number: 7})))
		full := nested(depth)
		last := &full
		for len(last.Inner) > 0 {
			last = &last.Inner[0]
		}
		last.Fields = []parse.Field{{Type: "bool", Name: "b", Number: 5}, {Repeated: true, Type: "N.N", Name: "c"}}
		checkText(t, ahead+tab+"bool b = 5;\n"+tab+"repeated N.N c = 0;\n"+behind, full)
		checkRight(t, within("O", nested(1), enum("E")), full, nested(depth))
		checkWrong(t, nested(depth, service("S")))
		checkWrong(t, nested(depth, enum("E"), service("S")))
		checkWrong(t, nested(depth, parse.Decl{Kind: 2, Name: "E", Inner: []parse.Decl{enum("F")}}))
	}
	for depth := api.MaxNest + 1; depth < 3*api.MaxNest; depth++ {
		checkWrong(t, nested(depth))
		checkWrong(t, message("A"), nested(depth))
		checkWrong(t, nested(depth, enum("E")))
		checkWrong(t, within("A", message("B"), nested(depth-1)))
	}
	checkRight(t, nested(api.MaxNest-1, message("A"), message("B"), enum("C"), message("D")))
	checkWrong(t, nested(api.MaxNest-1, message("A"), enum("C"), within("D", message("E"))))
	// One that lies beside lies no deeper.
	checkRight(t, nested(api.MaxNest), nested(api.MaxNest), enum("E"), within("A", nested(api.MaxNest-1), nested(api.MaxNest-1)))
}

// P6.1: what lies in a message comes in its order, behind all fields.
func TestOrder(t *testing.T) {
	a, b := parse.Field{Type: "int64", Name: "a", Number: 9}, parse.Field{Repeated: true, Type: "bytes", Name: "b", Number: 1}
	checkText(t, "message A {\n\tint64 a = 9;\n\trepeated bytes b = 1;\n}\n", message("A", a, b))
	checkText(t, "message A {\n\trepeated bytes b = 1;\n\tint64 a = 9;\n}\n", message("A", b, a))
	for _, inner := range [][]parse.Decl{
		{message("M"), enum("E")}, {enum("E"), message("M")}, {enum("E"), message("M"), enum("D")}, {message("Z"), enum("E"), message("M")},
	} {
		checkRight(t, parse.Decl{Kind: 1, Name: "A", Fields: []parse.Field{b, a, b}, Inner: inner})
	}
	for _, s := range []string{
		"message A { enum E { } int64 a = 9; message M { } repeated bytes b = 1; }",
		"message A{int64 a=9;repeated bytes b=1;enum E{}message M{}}",
		"message A { enum E {} message M {}\nint64 a = 9; repeated bytes b = 1; } // x",
	} {
		list, _, _ := parse.File(s)
		checkText(t, "message A {\n\tint64 a = 9;\n\trepeated bytes b = 1;\n\tenum E {\n\t}\n\tmessage M {\n\t}\n}\n", list...)
	}
	checkText(t, "enum E {\n\tb = 2;\n\ta = 1;\n\tb = 2;\n}\n", enum("E", parse.Value{Name: "b", Number: 2}, parse.Value{Name: "a", Number: 1}, parse.Value{Name: "b", Number: 2}))
	checkText(t, "service S {\n\trpc b(A) returns (B);\n\trpc a(B) returns (A);\n}\n", service("S", parse.Method{Name: "b", In: "A", Out: "B"}, parse.Method{Name: "a", In: "B", Out: "A"}))
}

// inAll answers declarations with f in them as often as a message may lie.
func inAll(f parse.Field) [][]parse.Decl {
	deep := nested(api.MaxNest, enum("E"))
	last := &deep
	for last.Inner[0].Kind == 1 {
		last = &last.Inner[0]
	}
	last.Fields = []parse.Field{f}
	return [][]parse.Decl{
		{message("A", f)},
		{message("A", parse.Field{Type: "bool", Name: "a"}, f)},
		{message("A", f, parse.Field{Type: "a.b", Name: "a"})},
		{enum("A"), within("B", enum("C"), message("D", f))},
		{deep},
	}
}

// checkType asks of a text as a type, with and without repeated.
func checkType(t *testing.T, text string, right bool) {
	t.Helper()
	for _, repeated := range []bool{false, true} {
		for _, list := range inAll(parse.Field{Repeated: repeated, Type: text, Name: "x", Number: 1}) {
			if right {
				checkRight(t, list...)
			} else {
				checkWrong(t, list...)
			}
		}
	}
	if right {
		checkText(t, "message A {\n\t"+text+" x = 1;\n\trepeated "+text+" x = 1;\n}\n",
			message("A", parse.Field{Type: text, Name: "x", Number: 1}, parse.Field{Repeated: true, Type: text, Name: "x", Number: 1}))
	}
}

// checkPath asks of a text as what a method takes, and answers.
func checkPath(t *testing.T, text string, right bool) {
	t.Helper()
	for _, d := range []parse.Decl{
		service("S", parse.Method{Name: "m", In: text, Out: "A"}),
		service("S", parse.Method{Name: "m", In: "a.b", Out: text}),
		service("S", parse.Method{Name: "l", In: "A", Out: "A"}, parse.Method{Name: "m", In: text, Out: text}),
	} {
		if right {
			checkRight(t, enum("E"), d)
		} else {
			checkWrong(t, enum("E"), d)
		}
	}
}

// names answers a path of count names.
func names(count int, name string) string {
	return strings.TrimSuffix(strings.Repeat(name+".", count), ".")
}

// P6.1: types and paths, of one name up to MaxNest names and of more.
func TestPaths(t *testing.T) {
	for _, name := range []string{"a", "λ_1", longest, "int32", "messages", "Bool"} {
		for count := 1; count <= api.MaxNest; count++ {
			checkType(t, names(count, name), true)
			checkPath(t, names(count, name), true)
		}
		for count := api.MaxNest + 1; count < 2*api.MaxNest+2; count++ {
			checkType(t, names(count, name), false)
			checkPath(t, names(count, name), false)
		}
	}
	for _, text := range append(wrongNames(), ".", "..", "a.", ".a", "a..b", "a. b", "a .b", "a.b ", "a.1", "a._", "a.é", "a,b", "a/b", "repeated a", "a//.b", "a\n.b",
		names(api.MaxNest, "a")+".", "."+names(api.MaxNest, "a"), names(api.MaxNest-1, "a")+"..a", "a."+longest+"a", longest+"a.a") {
		checkType(t, text, false)
		checkPath(t, text, false)
	}
}

// P6.1: the reserved words, as a type, as a path and as a part of one.
func TestReservedTypes(t *testing.T) {
	for _, word := range typeWords {
		checkType(t, word, true)
		checkPath(t, word, false)
		checkType(t, "repeated "+word, false)
	}
	for _, word := range otherReserved {
		checkType(t, word, false)
		checkPath(t, word, false)
	}
	for _, word := range reservedWords() {
		for _, text := range []string{word + ".a", "a." + word, "a." + word + ".b", word + "." + word, word + " ", " " + word, word + "."} {
			checkType(t, text, false)
			checkPath(t, text, false)
		}
		for _, text := range []string{word + "_", strings.ToUpper(word), "x" + word, "a." + word + "0"} {
			checkType(t, text, true)
			checkPath(t, text, true)
		}
	}
}

// wrongNames answers texts that are no NAME, and no path either.
func wrongNames() []string {
	return []string{
		"", " ", "_", "_a", "1", "1a", "0", "a b", " a", "a ", "a\n", "\na", "a\t", "a-b", "-a", "é", "aé", "Ώ", "a\u0390", "\u0390", "\u03ca", "a\u03ca",
		"\xff", "a\xff", "a\xce", "\xce", "\ufffd", "a\ufffd", "a\x00", "\x00", "a//", "//", "//a", "a;", "a=1", "a = 1;", "{", "}", "(", ")", "=", ";",
		"A {}", "A {} message B", "A { int64 x = 1; } message B", "a;b", "a(b)", "😀", strings.Repeat("a", api.MaxName+1), longest + "0", longest + "ω",
		strings.Repeat("a", 1<<16), strings.Repeat("\xff", 1<<16),
	}
}

// namedBy answers declarations with the text s at each place of a NAME.
func namedBy(s string) [][]parse.Decl {
	lists := [][]parse.Decl{
		{message(s)}, {enum(s)}, {service(s)},
		{message("A"), message(s), message("B")},
		{within("A", message(s))}, {within("A", enum(s))},
		{within(s, message("A"))},
		{nested(api.MaxNest-1, message("A"), message(s))},
		{nested(api.MaxNest, enum("A"), enum(s))},
		{enum("E", parse.Value{Name: s})},
		{enum("E", parse.Value{Name: "a"}, parse.Value{Name: s, Number: 1})},
		{within("A", enum("E", parse.Value{Name: s}))},
		{service("S", parse.Method{Name: s, In: "A", Out: "A"})},
		{service("S", parse.Method{Name: "a", In: "A", Out: "A"}, parse.Method{Name: s, In: "A", Out: "A"})},
	}
	lists = append(lists, inAll(parse.Field{Type: "int64", Name: s})...)
	return append(lists, inAll(parse.Field{Repeated: true, Type: "a.b", Name: s})...)
}

// P6.1: NAMEs, those that layer 5 reads and those that it doesn't.
func TestNames(t *testing.T) {
	right := []string{"a", "z", "A", "Z", "Α", "ω", "\u03a2", "a_", "a0", "a9_", "λ1", longest, strings.Repeat("Z", api.MaxName), "a" + strings.Repeat("_", api.MaxName-1), "int32", "Message", "rpcs"}
	for _, s := range right {
		for _, list := range namedBy(s) {
			checkRight(t, list...)
		}
	}
	for _, s := range slices.Concat(wrongNames(), reservedWords(), []string{"a.b", "a.", ".a", "."}) {
		for _, list := range namedBy(s) {
			checkWrong(t, list...)
		}
	}
	for _, word := range reservedWords() {
		for _, s := range []string{word + "_", strings.ToUpper(word), "x" + word} {
			for _, list := range namedBy(s) {
				checkRight(t, list...)
			}
		}
	}
}

// P6.1: kinds that are none of the three.
func TestKinds(t *testing.T) {
	for _, kind := range []int{0, -1, -2, -3, 4, 5, 255, 257, 1<<32 + 1, math.MaxInt, math.MinInt} {
		for _, d := range sample() {
			d.Kind = kind
			checkWrong(t, d)
			checkWrong(t, message("A"), d)
			checkWrong(t, within("A", d))
			checkWrong(t, nested(api.MaxNest, d))
		}
		checkWrong(t, parse.Decl{Kind: kind, Name: "A"})
	}
	checkWrong(t, parse.Decl{})
	checkWrong(t, parse.Decl{Kind: 1})
	checkWrong(t, parse.Decl{Name: "A"})
}

// P6.1: what a kind doesn't have, alone and beside what it has.
func TestWrongMembers(t *testing.T) {
	fields := []parse.Field{{Type: "int64", Name: "x"}}
	values := []parse.Value{{Name: "x"}}
	methods := []parse.Method{{Name: "x", In: "A", Out: "A"}}
	for kind := 1; kind <= 3; kind++ {
		for bits := range 16 {
			for _, inner := range [][]parse.Decl{{message("M")}, {enum("E")}, {service("S")}} {
				d := parse.Decl{Kind: kind, Name: "A"}
				if bits&1 > 0 {
					d.Fields = fields
				}
				if bits&2 > 0 {
					d.Values = values
				}
				if bits&4 > 0 {
					d.Methods = methods
				}
				if bits&8 > 0 {
					d.Inner = inner
				}
				fits := bits == 0 || kind == 1 && bits&6 == 0 && (bits&8 == 0 || inner[0].Kind != 3) || kind == 2 && bits == 2 || kind == 3 && bits == 4
				if fits != readBack([]parse.Decl{d}) {
					t.Errorf("layer 5 reads %v otherwise", d)
				}
				checkAll(t, d)
				checkAll(t, enum("E"), d, enum("E"))
				checkAll(t, within("B", d))
				checkAll(t, nested(api.MaxNest-1, d))
				checkAll(t, nested(api.MaxNest, d))
				checkAll(t, nested(api.MaxNest+1, d))
			}
		}
	}
	// Members of which something is missing.
	checkWrong(t, message("A", parse.Field{}))
	checkWrong(t, message("A", parse.Field{Name: "x"}))
	checkWrong(t, message("A", parse.Field{Type: "int64"}))
	checkWrong(t, enum("A", parse.Value{}))
	checkWrong(t, service("A", parse.Method{}))
	checkWrong(t, service("A", parse.Method{Name: "m", In: "A"}))
	checkWrong(t, service("A", parse.Method{Name: "m", Out: "A"}))
	checkWrong(t, service("A", parse.Method{In: "A", Out: "A"}))
}

// P6.1: numbers, at their edges and over them.
func TestNumbers(t *testing.T) {
	for _, n := range []int{0, 1, 9, 10, 11, 99, 100, 536870911, 536870912, most - 1, most} {
		checkText(t, fmt.Sprintf("enum E {\n\tv = %d;\n}\n", n), enum("E", parse.Value{Name: "v", Number: n}))
		for _, list := range inAll(parse.Field{Type: "int64", Name: "x", Number: n}) {
			checkRight(t, list...)
		}
		checkRight(t, within("A", enum("E", parse.Value{Name: "u"}, parse.Value{Name: "v", Number: n})))
	}
	for _, n := range []int{-1, -2, -most, -most - 1, most + 1, most + 2, 1<<32 - 1, 1 << 32, 1<<32 + 1, math.MaxInt, math.MinInt, math.MinInt + 1} {
		checkWrong(t, enum("E", parse.Value{Name: "v", Number: n}))
		checkWrong(t, enum("E", parse.Value{Name: "u"}, parse.Value{Name: "v", Number: n}))
		checkWrong(t, within("A", enum("E", parse.Value{Name: "v", Number: n}, parse.Value{Name: "u"})))
		for _, list := range inAll(parse.Field{Type: "int64", Name: "x", Number: n}) {
			checkWrong(t, list...)
		}
	}
}

// place answers list, all of it and what lies in it at the place at.
func place(list []parse.Decl, at api.Pos) []parse.Decl {
	list = parse.Strip(list)
	for i := range list {
		d := &list[i]
		d.At, d.Inner = at, place(d.Inner, at)
		for j := range d.Fields {
			d.Fields[j].At = at
		}
		for j := range d.Values {
			d.Values[j].At = at
		}
		for j := range d.Methods {
			d.Methods[j].At = at
		}
	}
	return list
}

// P6.1: places of every sort don't matter.
func TestPlaces(t *testing.T) {
	for _, line := range []int{0, 1, 2, 100, -1, most, most + 1, math.MaxInt, math.MinInt} {
		for _, col := range []int{0, 1, 7, -1, most, math.MaxInt, math.MinInt} {
			at := api.Pos{Line: line, Col: col}
			checkText(t, sampleText, place(sample(), at)...)
			checkWrong(t, place([]parse.Decl{within("A", service("S"))}, at)...)
		}
	}
}

// sized answers declarations whose text has just size bytes, and few words.
func sized(t *testing.T, size int) []parse.Decl {
	t.Helper()
	d := enum("E")
	left := size - len("enum E {\n}\n")
	const frame = len("\t = 0;\n")
	for left > 0 {
		// What is left behind this value is nothing, or enough for one more.
		count := min(api.MaxName, left-frame)
		if rest := left - frame - count; rest > 0 && rest < frame+1 {
			count -= frame + 1
		}
		d.Values = append(d.Values, parse.Value{Name: strings.Repeat("v", count)})
		left -= frame + count
	}
	if text := textOf([]parse.Decl{d}); len(text) != size {
		t.Fatalf("%d bytes, want %d", len(text), size)
	}
	return []parse.Decl{d}
}

// P6.1: texts of MaxSource bytes, of one less and of more.
func TestBytes(t *testing.T) {
	for size := api.MaxSource - 100; size <= api.MaxSource; size++ {
		list := sized(t, size)
		checkText(t, textOf(list), list...)
	}
	for size := api.MaxSource + 1; size < api.MaxSource+100; size++ {
		checkLong(t, sized(t, size)...)
	}
	// Bytes are counted, not runes, and tabs and empty lines with them.
	greek := enum("E")
	for range 228 {
		greek.Values = append(greek.Values, parse.Value{Name: longest})
	}
	text := textOf([]parse.Decl{greek})
	greek.Values = append(greek.Values, parse.Value{Name: strings.Repeat("v", min(api.MaxName, api.MaxSource-len(text)-7))})
	checkText(t, textOf([]parse.Decl{greek}), greek)
	for range 3 {
		greek.Values = append(greek.Values, parse.Value{Name: longest})
	}
	checkLong(t, greek)
	for _, end := range ends() {
		size := len(textOf(end))
		for more := -1; more <= 1; more++ {
			list := append(sized(t, api.MaxSource+more-size-1), end...)
			if got := len(textOf(list)); got != api.MaxSource+more {
				t.Fatalf("%d bytes", got)
			}
			if more > 0 {
				checkLong(t, list...)
			} else {
				checkText(t, textOf(list), list...)
			}
		}
	}
}

// ends answers declarations of all sorts, with which a text may end.
func ends() [][]parse.Decl {
	return [][]parse.Decl{
		{message("A")},
		{enum("A")},
		{service("λ")},
		{nested(api.MaxNest)},
		{nested(api.MaxNest, enum("E", parse.Value{Name: "λ"}))},
		{message("A", parse.Field{Repeated: true, Type: longest + ".b", Name: "x", Number: most})},
		{service("S", parse.Method{Name: "m", In: "A.λ", Out: "A"})},
		{enum("A"), message("B"), service("C")},
	}
}

// counted answers declarations whose text has just count words, and no great size:
// fields of five words, and repeated ones of six.
func counted(t *testing.T, count int) []parse.Decl {
	t.Helper()
	d := message("A")
	left := count - 4
	for left > 0 {
		repeated := left%5 > 0
		d.Fields = append(d.Fields, parse.Field{Repeated: repeated, Type: "a", Name: "b", Number: 1})
		left -= 5
		if repeated {
			left--
		}
	}
	checkWords(t, []parse.Decl{d}, count)
	return []parse.Decl{d}
}

// checkWords asks that list's text has count words, by the blanks between them.
func checkWords(t *testing.T, list []parse.Decl, count int) {
	t.Helper()
	if got := countOf(list); got != count {
		t.Fatalf("%d words, want %d", got, count)
	}
	if got := len(textOf(list)); got > api.MaxSource {
		t.Fatalf("%d bytes are too many", got)
	}
}

// P6.1: texts of MaxTokens words, of one less and of more.
func TestWords(t *testing.T) {
	for count := api.MaxTokens - 20; count <= api.MaxTokens; count++ {
		list := counted(t, count)
		checkText(t, textOf(list), list...)
	}
	for count := api.MaxTokens + 1; count < api.MaxTokens+20; count++ {
		checkLong(t, counted(t, count)...)
	}
	// Layer 4's words: the dots and names of a path are words of their own, and so are brackets.
	for _, end := range ends() {
		words, _, _ := lex.Words(textOf(end))
		for more := -1; more <= 1; more++ {
			list := append(counted(t, api.MaxTokens+more-len(words)), end...)
			checkWords(t, list, api.MaxTokens+more)
			if more > 0 {
				checkLong(t, list...)
			} else {
				checkText(t, textOf(list), list...)
			}
		}
	}
	values := enum("E")
	for range (api.MaxTokens - 4) / 4 {
		values.Values = append(values.Values, parse.Value{Name: "v"})
	}
	checkText(t, textOf([]parse.Decl{values}), values)
	values.Values = append(values.Values, parse.Value{Name: "v"})
	checkLong(t, values)
	empty := slices.Repeat([]parse.Decl{enum("E")}, api.MaxTokens/4)
	checkText(t, textOf(empty), empty...)
	checkLong(t, append(empty, enum("E"))...)
}

// P6.1: how much there is doesn't make declarations formed, or not: ErrArg comes
// ahead of ErrLong, wherever what is wrong stands.
func TestWrongAheadOfLong(t *testing.T) {
	for _, long := range [][]parse.Decl{
		sized(t, api.MaxSource+1), sized(t, 3*api.MaxSource), counted(t, api.MaxTokens+1),
		slices.Repeat([]parse.Decl{enum("E")}, 5000), slices.Repeat(sample(), 1000),
	} {
		checkLong(t, long...)
		for _, wrong := range []parse.Decl{
			{}, {Kind: 4, Name: "A"}, message("message"), enum("E", parse.Value{Name: "v", Number: -1}), nested(api.MaxNest + 1),
			within("A", service("S")), message("A", parse.Field{Type: "a..b", Name: "x"}), service("S", parse.Method{Name: "m", In: "A", Out: "int64"}),
		} {
			checkWrong(t, append(slices.Clone(long), wrong)...)
			checkWrong(t, append([]parse.Decl{wrong}, long...)...)
		}
	}
	many := make([]parse.Field, 50000)
	for i := range many {
		many[i] = parse.Field{Type: names(api.MaxNest, longest), Name: longest, Number: most}
	}
	checkLong(t, message("A", many...))
	many[len(many)-1].Number++
	checkWrong(t, message("A", many...))
}

// P6.2 and P3: what is read is printed and read again, unless that is too long; where
// the text is too long just by its layout, P6.1's error holds.
func TestReadPrintRead(t *testing.T) {
	for _, s := range []string{
		"", "// x", "message A { int64 x = 1; }", "message A{B x=1;enum E{a=0;}repeated B . C y=2;message D{}}service S{rpc m(A)returns(A.D);}//\xff",
		"enum\nE\n{\n}\n\n\nenum F {}", sampleText, strings.ReplaceAll(sampleText, "\n", " // \n "), strings.ReplaceAll(sampleText, "\n", "") + "\n", wordsOf(sample()),
	} {
		list, at, err := parse.File(s)
		if err != api.OK {
			t.Fatalf("File(%q) answers %v, %d", s, at, err)
		}
		checkRight(t, list...)
	}
	dense := "enum E{" + strings.Repeat(strings.Repeat("v", 15)+"=0;", 999) + "}"
	list, _, err := parse.File(dense)
	if err != api.OK {
		t.Fatalf("the dense text: %d", err)
	}
	checkLong(t, list...)
}

// dice make declarations, at random but always the same.
type dice struct{ *rand.Rand }

func (r dice) pick(list ...string) string { return list[r.Intn(len(list))] }

func (r dice) name() string {
	return r.pick("a", "B", "λ", "ω_1", "x9", "Item", "get_item", "messages", "Int64", longest)
}

func (r dice) path() string {
	list := make([]string, 1+r.Intn(api.MaxNest))
	for i := range list {
		list[i] = r.name()
	}
	return strings.Join(list, ".")
}

func (r dice) number() int {
	return []int{0, 1, r.Intn(100), r.Intn(most), most}[r.Intn(5)]
}

func (r dice) at() api.Pos { return api.Pos{Line: r.Intn(9) - 4, Col: r.Intn(9) - 4} }

func (r dice) field() parse.Field {
	f := parse.Field{Repeated: r.Intn(2) > 0, Type: r.path(), Name: r.name(), Number: r.number(), At: r.at()}
	if r.Intn(2) > 0 {
		f.Type = r.pick(typeWords...)
	}
	return f
}

// decl answers a formed declaration that lies in depth messages.
func (r dice) decl(depth int) parse.Decl {
	d := parse.Decl{Kind: 1 + r.Intn(3), Name: r.name(), At: r.at()}
	if depth > 0 && d.Kind == 3 {
		d.Kind = 1
	}
	if depth == api.MaxNest {
		d.Kind = 2
	}
	for range r.Intn(4) {
		switch d.Kind {
		case 1:
			d.Fields = append(d.Fields, r.field())
			d.Inner = append(d.Inner, r.decl(depth+1))
		case 2:
			d.Values = append(d.Values, parse.Value{Name: r.name(), Number: r.number(), At: r.at()})
		case 3:
			d.Methods = append(d.Methods, parse.Method{Name: r.name(), In: r.path(), Out: r.path(), At: r.at()})
		}
	}
	return d
}

// spoilt answers list with one thing of it changed, to something that may be right or wrong.
func (r dice) spoilt(list []parse.Decl) []parse.Decl {
	list = slices.Clone(list)
	d := &list[r.Intn(len(list))]
	word := r.pick(append(reservedWords(), "", "a", "a.b", "1", "_", "é", "a b", "\xff", names(9, "a"), longest+"a")...)
	number := []int{-1, 0, most, most + 1}[r.Intn(4)]
	switch what := r.Intn(8); {
	case what == 0:
		d.Kind = r.Intn(6) - 1
	case what == 1:
		d.Name = word
	case what == 2 && len(d.Fields) > 0:
		d.Fields = append([]parse.Field{{Type: word, Name: r.name(), Number: number}}, d.Fields...)
	case what == 3 && len(d.Values) > 0:
		d.Values = append([]parse.Value{{Name: word, Number: number}}, d.Values...)
	case what == 4 && len(d.Methods) > 0:
		d.Methods = append([]parse.Method{{Name: r.name(), In: r.path(), Out: word}}, d.Methods...)
	case what == 5:
		d.Inner = append(slices.Clone(d.Inner), r.decl(r.Intn(api.MaxNest)))
	case what == 6:
		d.Fields = append(slices.Clone(d.Fields), r.field())
	case len(d.Inner) > 0:
		d.Inner = r.spoilt(d.Inner)
	}
	return list
}

// P6.1 and P6.2, for declarations of all sorts, right and wrong ones.
func TestRandom(t *testing.T) {
	r := dice{rand.New(rand.NewSource(6))}
	right, wrong, long := 0, 0, 0
	for range 3000 {
		list := make([]parse.Decl, 1+r.Intn(3))
		if r.Intn(8) == 0 {
			list = make([]parse.Decl, 20+r.Intn(60))
		}
		for i := range list {
			list[i] = r.decl(0)
		}
		text := textOf(list)
		if len(text) > api.MaxSource || countOf(list) > api.MaxTokens {
			checkLong(t, list...)
			long++
			continue
		}
		checkText(t, text, list...)
		list = r.spoilt(list)
		if len(wordsOf(list)) > api.MaxSource || len(textOf(list)) > api.MaxSource || countOf(list) > api.MaxTokens {
			continue
		}
		checkAll(t, list...)
		if readBack(list) {
			right++
		} else {
			wrong++
		}
	}
	if right < 100 || wrong < 100 || long < 100 {
		t.Errorf("%d right, %d wrong and %d long ones are too few", right, wrong, long)
	}
}

// spare answers list with one more declaration in its spare room.
func spare(list []parse.Decl) []parse.Decl {
	return append(slices.Clip(list), message("spare"))[:len(list)]
}

// R2 and R3: answers hang on the arguments alone, which are left as they are, and
// are new memory.
func TestMemory(t *testing.T) {
	list, same := spare(place(sample(), api.Pos{Line: 3, Col: 4})), spare(place(sample(), api.Pos{Line: 3, Col: 4}))
	first, _ := File(list)
	File([]parse.Decl{{}})
	File(sized(t, api.MaxSource+1))
	second, _ := File(list)
	if first != sampleText || second != sampleText || unsafe.StringData(first) == unsafe.StringData(second) {
		t.Errorf("%q, then %q", first, second)
	}
	if !Formed(list) || !Formed(list) {
		t.Error("Formed changes its mind")
	}
	if !reflect.DeepEqual(list[:cap(list)], same[:cap(same)]) {
		t.Error("the argument was changed")
	}
	for i := range list {
		list[i] = parse.Decl{}
	}
	if first != sampleText {
		t.Error("the answer changed with the argument")
	}
}

// R1: whatever declarations come, however deep they lie, and even in themselves.
func TestWhateverDeclarations(t *testing.T) {
	checkWrong(t, nested(1<<16))
	for kind := range 5 {
		deep := []parse.Decl{{Kind: kind, Name: "A"}}
		for range 1 << 12 {
			deep = []parse.Decl{{Kind: kind, Name: "A", Inner: deep}}
		}
		if Formed(deep) {
			t.Errorf("deep declarations of the kind %d are formed", kind)
		}
		round := slices.Repeat([]parse.Decl{{Kind: kind, Name: "A"}}, 100)
		for i := range round {
			round[i].Inner = round
		}
		if s, err := File(round); s != "" || err != api.ErrArg {
			t.Errorf("File of declarations in themselves = %q, %d", s, err)
		}
	}
}

// P6.2, for whatever texts a run of the fuzzer finds.
func FuzzFile(f *testing.F) {
	for _, s := range []string{"", sampleText, wordsOf(sample()), "message A { B.C x = 1; }", "service S { rpc m(A) returns (A.D); }//\xff"} {
		f.Add(s)
	}
	f.Fuzz(func(t *testing.T, s string) {
		list, _, err := parse.File(s)
		if err != api.OK {
			return
		}
		if text := textOf(list); len(text) > api.MaxSource {
			checkLong(t, list...)
		} else {
			checkText(t, text, list...)
		}
	})
}
