package scope

import (
	"fmt"
	"math"
	"math/rand"
	"reflect"
	"slices"
	"strings"
	"testing"
	"unsafe"

	"courier/api"
	"courier/ident"
	"courier/parse"
)

// longest is a name of as many bytes as one can have, and of as many runes.
var longest = strings.Repeat("ω", api.MaxName)

func message(name string, inner ...parse.Decl) parse.Decl {
	return parse.Decl{Kind: 1, Name: name, Inner: inner}
}

func enum(name string, inner ...parse.Decl) parse.Decl {
	return parse.Decl{Kind: 2, Name: name, Inner: inner}
}

func service(name string, inner ...parse.Decl) parse.Decl {
	return parse.Decl{Kind: 3, Name: name, Inner: inner}
}

// read answers the declarations of a text, which must be right.
func read(t *testing.T, s string) []parse.Decl {
	t.Helper()
	list, at, err := parse.File(s)
	if err != api.OK {
		t.Fatalf("File(%q) answers %v, %d", s, at, err)
	}
	return list
}

// show answers the beginning of what list looks like.
func show(list []parse.Decl) string { return fmt.Sprintf("%.400s", fmt.Sprintf("%v", list)) }

// checkAll asks that All tells of list just these, each written as its kind, a
// blank and its whole name.
func checkAll(t *testing.T, list []parse.Decl, want ...string) {
	t.Helper()
	var got []string
	for _, s := range All(list) {
		got = append(got, fmt.Sprintf("%d %s", s.Kind, s.Name))
	}
	if !slices.Equal(got, want) {
		t.Errorf("All(%s) = %q, want %q", show(list), got, want)
	}
}

// checkFind asks that path means in scope what want says, written as in checkAll,
// or nothing, if that is "".
func checkFind(t *testing.T, list []parse.Decl, scope, path, want string) {
	t.Helper()
	s, ok := Find(list, scope, path)
	got := ""
	if ok {
		got = fmt.Sprintf("%d %s", s.Kind, s.Name)
	}
	if got != want || !ok && s != (Symbol{}) {
		t.Errorf("Find(%s, %.200q, %.200q) = %v, %v, want %q", show(list), scope, path, s, ok, want)
	}
}

// find is one asking: in scope path means want.
type find struct{ scope, path, want string }

// checkEach asks each of asked, of list.
func checkEach(t *testing.T, list []parse.Decl, asked ...find) {
	t.Helper()
	for _, a := range asked {
		checkFind(t, list, a.scope, a.path, a.want)
	}
}

// entry is a declaration in a plain list of all of them; in is the number there of
// the one that it lies in, or -1.
type entry struct {
	name, whole string
	kind, in    int
}

// entries answers all declarations of list, by a stack and without recursion.
func entries(list []parse.Decl) []entry {
	type waiting struct {
		d  parse.Decl
		in int
	}
	var stack []waiting
	push := func(list []parse.Decl, in int) {
		for _, d := range slices.Backward(list) {
			stack = append(stack, waiting{d, in})
		}
	}
	push(list, -1)
	var out []entry
	for len(stack) > 0 {
		w := stack[len(stack)-1]
		stack = stack[:len(stack)-1]
		e := entry{name: w.d.Name, whole: w.d.Name, kind: w.d.Kind, in: w.in}
		if w.in >= 0 {
			e.whole = strings.Join([]string{out[w.in].whole, w.d.Name}, ".")
		}
		out = append(out, e)
		push(w.d.Inner, len(out)-1)
	}
	return out
}

// counting answers which entry of a whole name counts, or -1.
func counting(all []entry, whole string) int {
	return slices.IndexFunc(all, func(e entry) bool { return e.whole == whole })
}

// child answers the message or enum that name means right in an entry, or -1.
func child(all []entry, in int, name string) int {
	for _, e := range all {
		if e.in == in && e.name == name {
			if i := counting(all, e.whole); all[i].kind == 1 || all[i].kind == 2 {
				return i
			}
			return -1
		}
	}
	return -1
}

// model answers what path means in scope, as checkFind writes it, by the chapter's
// words and by another way than the program's: in the plain list.
func model(all []entry, scope, path string) string {
	names := strings.Split(path, ".")
	if len(names) > api.MaxNest {
		return ""
	}
	for _, name := range names {
		if !ident.Name(name) || ident.Reserved(name) {
			return ""
		}
	}
	in := -1
	if scope != "" {
		if in = counting(all, scope); in < 0 || all[in].kind != 1 {
			return ""
		}
	}
	at := child(all, in, names[0])
	for at < 0 && in >= 0 {
		in = all[in].in
		at = child(all, in, names[0])
	}
	for _, name := range names[1:] {
		if at >= 0 {
			at = child(all, at, name)
		}
	}
	if at < 0 {
		return ""
	}
	return fmt.Sprintf("%d %s", all[at].kind, all[at].whole)
}

// checkModel asks All and Find of list, the latter in all scopes and with some
// paths, against the plain list; it answers how many paths meant something.
func checkModel(t *testing.T, list []parse.Decl, paths ...string) int {
	t.Helper()
	all := entries(list)
	var lines []string
	scopes := []string{"", "A", ".", "A.", "none"}
	for _, e := range all {
		lines = append(lines, fmt.Sprintf("%d %s", e.kind, e.whole))
		scopes = append(scopes, e.whole)
		paths = append(paths, e.whole, e.name)
	}
	checkAll(t, list, lines...)
	found := 0
	for _, scope := range compact(scopes) {
		for _, path := range compact(paths) {
			want := model(all, scope, path)
			checkFind(t, list, scope, path, want)
			if want != "" {
				found++
			}
		}
	}
	return found
}

// compact answers the texts of list, each once.
func compact(list []string) []string {
	list = slices.Clone(list)
	slices.Sort(list)
	return slices.Compact(list)
}

// checkThemselves asks P7.2 of list: where no two declarations have one whole name,
// each message's and enum's that is a path means itself in "".
func checkThemselves(t *testing.T, list []parse.Decl) {
	t.Helper()
	all := All(list)
	for i, s := range all {
		for _, other := range all[:i] {
			if s.Name == other.Name {
				return
			}
		}
	}
	for _, s := range all {
		want := fmt.Sprintf("%d %s", s.Kind, s.Name)
		if _, ok := ident.Path(s.Name); !ok || s.Kind == 3 {
			want = ""
		}
		checkFind(t, list, "", s.Name, want)
	}
}

// P7.1: the chapter's example.
func TestExample(t *testing.T) {
	list := read(t, "message A { message B {} } message B {}")
	checkAll(t, list, "1 A", "1 A.B", "1 B")
	checkEach(t, list, find{"A", "B", "1 A.B"}, find{"", "B", "1 B"})
	checkThemselves(t, list)
}

// P7.1: no declarations.
func TestNoDeclarations(t *testing.T) {
	for _, none := range [][]parse.Decl{nil, {}, {message("A")}} {
		none = none[:0]
		checkAll(t, none)
		for _, scope := range []string{"", "A", "A.B", "."} {
			for _, path := range []string{"", "A", "A.B", "."} {
				checkFind(t, none, scope, path, "")
			}
		}
	}
}

// sample has declarations of all kinds, in one another and in mixed order.
const sample = `
service S { rpc m(A) returns (A.D); }
message A {
	enum E { z = 0; }
	E e = 1;
	message D { message F {} enum G { y = 0; } message H { enum λ {} } }
	enum C {}
	message B {}
}
enum E { x = 0; }
service T {}
message B { message A { message B {} } enum D {} }
message D {}
`

// P7.1: All has the whole names and kinds of all, each ahead of what lies in it.
func TestAll(t *testing.T) {
	checkAll(t, read(t, sample),
		"3 S", "1 A", "2 A.E", "1 A.D", "1 A.D.F", "2 A.D.G", "1 A.D.H", "2 A.D.H.λ", "2 A.C", "1 A.B",
		"2 E", "3 T", "1 B", "1 B.A", "1 B.A.B", "2 B.D", "1 D")
	for kind, word := range map[int]string{1: "message", 2: "enum", 3: "service"} {
		checkAll(t, read(t, word+" λ_1 {}"), fmt.Sprintf("%d λ_1", kind))
		checkAll(t, read(t, word+" B {}"+word+" A {}"), fmt.Sprintf("%d B", kind), fmt.Sprintf("%d A", kind))
		checkAll(t, read(t, word+" A {}"+word+" A {}"), fmt.Sprintf("%d A", kind), fmt.Sprintf("%d A", kind))
	}
	checkAll(t, read(t, "message a { message a { message a {} } message a {} }"), "1 a", "1 a.a", "1 a.a.a", "1 a.a")
	// What isn't declared by a declaration of its own isn't told.
	checkAll(t, read(t, "message A { int64 x = 1; B y = 2; } enum E { v = 0; } service S { rpc m(A) returns (A); }"), "1 A", "2 E", "3 S")
}

// P7.1: paths of one name and of several, in "" and in messages.
func TestFind(t *testing.T) {
	checkEach(t, read(t, sample),
		// Those that lie in nothing.
		find{"", "A", "1 A"}, find{"", "B", "1 B"}, find{"", "D", "1 D"}, find{"", "E", "2 E"},
		find{"", "F", ""}, find{"", "C", ""}, find{"", "a", ""}, find{"", "AA", ""}, find{"", "A_", ""},
		// By several names.
		find{"", "A.D", "1 A.D"}, find{"", "A.D.H.λ", "2 A.D.H.λ"}, find{"", "A.D.H", "1 A.D.H"}, find{"", "B.A.B", "1 B.A.B"}, find{"", "A.E", "2 A.E"},
		find{"", "A.F", ""}, find{"", "A.D.E", ""}, find{"", "A.A", ""}, find{"", "B.A.A", ""}, find{"", "D.F", ""}, find{"", "D.D", ""},
		// In the scope itself, in the one that it lies in, and at last in nothing.
		find{"A.D", "H", "1 A.D.H"}, find{"A.D", "G", "2 A.D.G"}, find{"A.D", "C", "2 A.C"}, find{"A.D", "B", "1 A.B"}, find{"A.D", "E", "2 A.E"}, find{"A.D", "D", "1 A.D"}, find{"A.D", "A", "1 A"},
		find{"A.D.H", "λ", "2 A.D.H.λ"}, find{"A.D.H", "F", "1 A.D.F"}, find{"A.D.H", "H", "1 A.D.H"}, find{"A.D.H", "E", "2 A.E"}, find{"A.D.H", "A", "1 A"}, find{"A.D.H", "none", ""},
		find{"D", "E", "2 E"}, find{"D", "D", "1 D"}, find{"D", "B", "1 B"}, find{"D", "F", ""}, find{"D", "C", ""},
		// Found in more than one of them: the inmost.
		find{"B", "D", "2 B.D"}, find{"B", "A", "1 B.A"}, find{"B.A", "A", "1 B.A"}, find{"B.A", "B", "1 B.A.B"}, find{"B.A.B", "B", "1 B.A.B"}, find{"B.A.B", "A", "1 B.A"}, find{"B.A.B", "D", "2 B.D"}, find{"B.A.B", "E", "2 E"},
		// Several names in a scope.
		find{"A", "D.H.λ", "2 A.D.H.λ"}, find{"A", "A.D.H.λ", "2 A.D.H.λ"}, find{"A.D.H", "D.G", "2 A.D.G"}, find{"A.D.F", "H.λ", "2 A.D.H.λ"}, find{"A.D.F", "A.B", "1 A.B"}, find{"D", "A.B", "1 A.B"},
		// What is beside the scope's ways isn't looked at.
		find{"A", "F", ""}, find{"A", "H", ""}, find{"A.B", "F", ""}, find{"A.D.F", "λ", ""}, find{"A.D.H", "G.λ", ""},
	)
}

// P7.1: the first one found is meant, even if the second name isn't declared right
// in it and is so in a further one.
func TestNoOtherFirst(t *testing.T) {
	list := read(t, `
message A { message B { message C {} } message X { message Y {} } }
message B { message X { message A {} } enum C {} message Z { message W {} } }
message C { message B {} enum A {} message X {} }
message X { message Z {} }
message Z { message Y {} }`)
	checkEach(t, list,
		find{"", "B.C", "2 B.C"}, find{"A", "B.C", "1 A.B.C"}, find{"C", "B.C", ""}, find{"B", "B.C", "2 B.C"},
		find{"A", "B.X", ""}, find{"A.B", "B.X", ""}, find{"A.B.C", "B.X.A", ""}, find{"A.X", "B.X", ""}, find{"X", "B.X", "1 B.X"},
		find{"C", "A.B", ""}, find{"C", "A.X", ""}, find{"C.B", "A.X", ""}, find{"B", "A.X", "1 A.X"}, find{"B.X", "A.X", ""}, find{"B.X.A", "A.B", ""},
		find{"A.B", "X.Z", ""}, find{"A.B", "X.Y", "1 A.X.Y"}, find{"B", "X.Z", ""}, find{"B", "Z.Y", ""}, find{"B.Z.W", "Z.Y", ""}, find{"B.Z.W", "Z.W", "1 B.Z.W"}, find{"A", "Z.Y", "1 Z.Y"}, find{"A", "Z.W", ""},
		// A later name, too, is looked for right there alone.
		find{"", "A.B.X", ""}, find{"", "A.B.B", ""}, find{"", "A.X.X", ""}, find{"", "B.X.B", ""}, find{"A", "B.C.B", ""}, find{"A", "B.C.C", ""},
	)
	checkModel(t, list)
	checkThemselves(t, list)
}

// P7.1: a scope that is the whole name of an enum or of a service, or of nothing.
func TestWrongScopes(t *testing.T) {
	list := read(t, sample)
	for _, path := range []string{"A", "B", "D", "E", "A.D", "A.D.H.λ", "S"} {
		for _, scope := range []string{
			"A.E", "A.C", "E", "A.D.G", "A.D.H.λ", "B.D", "S", "T",
			"X", "a", "F", "H", "C", "D.H", "A.A", "A.F", "S.A", "E.A", "S.m", "E.x", "A.e", "A.E.z",
			".", "A.", ".A", "A..D", " ", " A", "A ", "A\n", "A.D.", "A.D.H.", "A.D.H.λ.", "\x00", "\xff", "message", "A.message", "A.D.H.λ.a.b.c.d.e.f", "AA", "A/D",
		} {
			checkFind(t, list, scope, path, "")
		}
	}
}

// P7.1: services are never meant, nor is what lies in them, by a declaration that
// layer 5 doesn't read.
func TestServices(t *testing.T) {
	list := read(t, "message A { message S {} } service S { rpc m(A) returns (A); } service T {} message B { message C {} }")
	checkEach(t, list,
		find{"", "S", ""}, find{"", "T", ""}, find{"A", "S", "1 A.S"}, find{"A", "T", ""}, find{"B", "S", ""}, find{"B.C", "S", ""}, find{"A.S", "S", "1 A.S"}, find{"", "S.m", ""}, find{"", "A.S", "1 A.S"}, find{"S", "A", ""}, find{"T", "T", ""})
	checkThemselves(t, list)
	// A service in a message is passed over, and the search goes on.
	list = []parse.Decl{message("A", service("S", message("C")), message("B", service("B"), service("A"))), message("S", message("D")), enum("B"), service("T", message("C"))}
	checkAll(t, list, "1 A", "3 A.S", "1 A.S.C", "1 A.B", "3 A.B.B", "3 A.B.A", "1 S", "1 S.D", "2 B", "3 T", "1 T.C")
	checkEach(t, list,
		find{"A", "S", "1 S"}, find{"A", "S.D", "1 S.D"}, find{"A.B", "S.D", "1 S.D"}, find{"A", "S.C", ""}, find{"", "A.S", ""}, find{"", "A.S.C", ""}, find{"A", "A.S.C", ""},
		find{"A.B", "B", "1 A.B"}, find{"A.B", "A", "1 A"}, find{"A.B", "A.B", "1 A.B"}, find{"A", "B.B", ""}, find{"", "T", ""}, find{"", "T.C", ""}, find{"A.S", "A", ""},
		// In a message that lies in a service, yet, names are looked for there.
		find{"A.S.C", "C", "1 A.S.C"}, find{"A.S.C", "S", "1 S"}, find{"T.C", "C", "1 T.C"}, find{"T.C", "D", ""}, find{"T.C", "A", "1 A"})
	checkModel(t, list)
}

// P7.1: a path that goes through an enum.
func TestThroughEnums(t *testing.T) {
	list := read(t, "message A { enum E { F = 0; } message E2 { message F {} } } enum E { G = 0; } message F {} message G { message F {} enum A { F = 0; } }")
	checkEach(t, list,
		find{"", "A.E", "2 A.E"}, find{"", "A.E.F", ""}, find{"A", "E.F", ""}, find{"", "E.G", ""}, find{"", "E.F", ""}, find{"A", "E.G", ""}, find{"", "A.E2.F", "1 A.E2.F"},
		find{"G", "A.F", ""}, find{"G", "A.E", ""}, find{"G", "A", "2 G.A"}, find{"G.F", "A.E2", ""}, find{"F", "A.E2", "1 A.E2"}, find{"A", "E.E2", ""}, find{"", "A.E.E2.F", ""})
	checkThemselves(t, list)
	// Only where layer 5 doesn't read it can there be something in an enum.
	list = []parse.Decl{enum("E", message("M", enum("F")), enum("G")), message("A", enum("E", message("N")))}
	checkAll(t, list, "2 E", "1 E.M", "2 E.M.F", "2 E.G", "1 A", "2 A.E", "1 A.E.N")
	checkEach(t, list,
		find{"", "E.M.F", "2 E.M.F"}, find{"", "E.G", "2 E.G"}, find{"A", "E.M", ""}, find{"A", "E.N", "1 A.E.N"}, find{"E.M", "G", "2 E.G"}, find{"E.M", "A", "1 A"}, find{"E", "M", ""}, find{"A.E.N", "E", "2 A.E"})
	checkThemselves(t, list)
}

// P7.1: of declarations of one whole name the first one counts.
func TestOneWholeName(t *testing.T) {
	for first, one := range map[int]string{1: "message", 2: "enum", 3: "service"} {
		for second, other := range map[int]string{1: "message", 2: "enum", 3: "service"} {
			list := read(t, one+" A {} "+other+" A {} message B {}")
			checkAll(t, list, fmt.Sprintf("%d A", first), fmt.Sprintf("%d A", second), "1 B")
			want, within := fmt.Sprintf("%d A", first), ""
			if first == 3 {
				want = ""
			}
			if first == 1 {
				within = "1 B"
			}
			checkEach(t, list, find{"", "A", want}, find{"B", "A", want}, find{"A", "B", within})
			if first == 3 || second == 3 {
				continue
			}
			list = read(t, "message M { "+one+" A {} "+other+" A {} } service A {}")
			want = fmt.Sprintf("%d M.A", first)
			checkEach(t, list, find{"", "M.A", want}, find{"M", "A", want}, find{"M", "M.A", want})
			checkModel(t, list)
		}
	}
	// What lies in a further one isn't declared right in the first one.
	list := read(t, "message A { message B { enum X {} } enum X {} } message A { enum B {} message C { message D {} } message X {} } enum X {}")
	checkAll(t, list, "1 A", "1 A.B", "2 A.B.X", "2 A.X", "1 A", "2 A.B", "1 A.C", "1 A.C.D", "1 A.X", "2 X")
	checkEach(t, list,
		find{"", "A.B", "1 A.B"}, find{"A", "B", "1 A.B"}, find{"", "A.B.X", "2 A.B.X"}, find{"A.B", "X", "2 A.B.X"}, find{"", "A.X", "2 A.X"},
		find{"", "A.C", ""}, find{"", "A.C.D", ""}, find{"A", "C", ""}, find{"A.B", "C", ""},
		// A.C is a message's whole name, and lies in the further one.
		find{"A.C", "D", "1 A.C.D"}, find{"A.C.D", "C", "1 A.C"}, find{"A.C.D", "D", "1 A.C.D"}, find{"A.C", "B", "1 A.B"}, find{"A.C", "X", "2 A.X"}, find{"A.C", "A.C", ""}, find{"A.C", "A", "1 A"})
	checkModel(t, list)
	list = read(t, "enum A {} message A { message B {} } service C {} message C { message B {} } message B {}")
	checkEach(t, list,
		find{"", "A", "2 A"}, find{"", "A.B", ""}, find{"A", "B", ""}, find{"A.B", "B", "1 A.B"}, find{"A.B", "A", "2 A"},
		find{"", "C", ""}, find{"", "C.B", ""}, find{"C", "B", ""}, find{"C.B", "B", "1 C.B"}, find{"C.B", "C", ""})
	checkModel(t, list)
	// The first is the first one in the order of All, not the one that lies less deep.
	list = []parse.Decl{message("A", enum("B.C"), message("B", message("C"))), message("A.B.C"), message("A.B", service("D")), message("D")}
	checkEach(t, list, find{"", "A.B.C", "2 A.B.C"}, find{"A.B", "C", "2 A.B.C"}, find{"A.B.C", "A", ""}, find{"A.B", "D", "1 D"}, find{"", "A.B", "1 A.B"})
	checkModel(t, list)
}

// wrongPaths are texts that are no paths.
var wrongPaths = []string{
	"", ".", "..", "A.", ".A", "A..B", ".A.B", "A.B.", " ", " A", "A ", "A .B", "A. B", "A\n", "A\x00", "1", "1a", "_", "_A", "A.1", "A._", "A-B", "A/B", "é", "A.é", "\xff", "A\xff", "A.\xce", "\u0390", "A.\u03ca", "😀",
	"message", "enum", "service", "rpc", "returns", "repeated", "int64", "uint64", "sint64", "bool", "string", "bytes", "fixed32", "fixed64", "A.message", "int64.A", "A.bool.B",
	longest + "a", "A." + longest + "a", strings.Repeat("a", 41), "A.A.A.A.A.A.A.A.A", strings.Repeat("A.", 100) + "A",
}

// P7.1: a path that is no path, even where a declaration has just this whole name.
func TestWrongPaths(t *testing.T) {
	lists := [][]parse.Decl{read(t, sample), nil, {nested("A", 10)}}
	for _, path := range wrongPaths {
		parts := strings.Split(path, ".")
		d := message(parts[len(parts)-1])
		for _, part := range slices.Backward(parts[:len(parts)-1]) {
			d = message(part, d)
		}
		for _, list := range append(lists, []parse.Decl{message(path)}, []parse.Decl{d}, []parse.Decl{message("A", message(path), d)}, []parse.Decl{{Name: path}}) {
			checkFind(t, list, "", path, "")
			checkFind(t, list, "A", path, "")
			checkFind(t, list, path, path, "")
		}
	}
	for _, name := range []string{"A", "z", "λ", "ω9_", "messages", "Message", "int64_", longest} {
		list := []parse.Decl{message(name, enum(name))}
		checkEach(t, list, find{"", name, "1 " + name}, find{name, name, "2 " + name + "." + name}, find{"", name + "." + name, "2 " + name + "." + name})
	}
}

// nested answers depth messages of one name in one another, with inner in the last one.
func nested(name string, depth int, inner ...parse.Decl) parse.Decl {
	d := message(name, inner...)
	for range depth - 1 {
		d = message(name, d)
	}
	return d
}

// names answers a path of so many names.
func names(count int, name string) string {
	return strings.Join(slices.Repeat([]string{name}, count), ".")
}

// P7.1: messages MaxNest deep, of which an enum lies in the last one: its whole name
// is no path, yet it is found by shorter ones.
func TestNested(t *testing.T) {
	for depth := 1; depth <= api.MaxNest; depth++ {
		list := []parse.Decl{nested(longest, depth, enum("E")), enum("E")}
		deep := names(depth, longest)
		want := "2 " + deep + ".E"
		if depth == api.MaxNest {
			checkFind(t, list, "", deep+".E", "")
			checkFind(t, list, deep, deep+".E", "")
		} else {
			checkFind(t, list, "", deep+".E", want)
		}
		checkFind(t, list, "", deep, "1 "+deep)
		checkFind(t, list, deep, "E", want)
		checkFind(t, list, deep, longest+".E", map[bool]string{true: "2 " + longest + ".E", false: want}[depth == 1])
		checkFind(t, list, deep+".E", "E", "")
		checkFind(t, list, deep+"."+longest, "E", "")
		for outer := 1; outer < depth; outer++ {
			checkFind(t, list, names(outer, longest), "E", "2 E")
			checkFind(t, list, names(outer, longest), names(depth-outer, longest)+".E", want)
			checkFind(t, list, names(outer, longest), longest, "1 "+names(outer+1, longest))
		}
		checkFind(t, list, deep, longest, "1 "+deep)
		checkThemselves(t, list)
		checkModel(t, list, names(api.MaxNest, longest), names(api.MaxNest+1, longest))
	}
}

// P7.2, for texts in which no two declarations have one whole name.
func TestThemselves(t *testing.T) {
	for _, s := range []string{
		"", "message A {}", "enum A {}", "service A {}", sample,
		"message A { message A { message A { enum A {} } } }",
		"message A { message B { message C {} } } message B { message C { message A {} } } message C { message A { message B {} } }",
		"message a { enum a_ {} enum A {} } message A { enum a {} } enum aa {} message λ { message Λ {} }",
	} {
		list := read(t, s)
		found := 0
		for _, sym := range All(list) {
			if got, ok := Find(list, "", sym.Name); ok != (sym.Kind != 3) || ok && got != sym {
				t.Errorf("%s in %q means %v, %v", sym.Name, s, got, ok)
			}
			found++
		}
		if words := strings.Count(s, "message ") + strings.Count(s, "enum ") + strings.Count(s, "service "); found != words {
			t.Errorf("%d declarations of %q, want %d", found, s, words)
		}
	}
}

// P7.1: wrong kinds, names and depth are told by All as they are, and lead Find to
// nothing that isn't a message or an enum.
func TestWrongDeclarations(t *testing.T) {
	kinds := []int{0, 4, 5, 7, -1, -2, 257, 1 << 32, 1<<32 + 1, math.MaxInt, math.MinInt}
	for _, kind := range kinds {
		odd := parse.Decl{Kind: kind, Name: "K", Inner: []parse.Decl{message("M"), enum("N")}}
		list := []parse.Decl{message("A", odd, message("B")), odd}
		checkAll(t, list, "1 A", fmt.Sprintf("%d A.K", kind), "1 A.K.M", "2 A.K.N", "1 A.B", fmt.Sprintf("%d K", kind), "1 K.M", "2 K.N")
		checkEach(t, list, find{"", "K", ""}, find{"A", "K", ""}, find{"", "A.K", ""}, find{"", "K.M", ""}, find{"K", "A", ""}, find{"A.K", "B", ""}, find{"A.K.M", "N", "2 A.K.N"}, find{"A.K.M", "B", "1 A.B"})
		list = append(list, message("K"))
		checkEach(t, list, find{"", "K", ""}, find{"K", "A", ""})
		checkModel(t, list)
	}
	// An empty name, which isn't the scope "".
	list := []parse.Decl{message("", message("B", enum("C")), message("")), message("D"), enum(".B"), message("..E")}
	checkAll(t, list, "1 ", "1 .B", "2 .B.C", "1 .", "1 D", "2 .B", "1 ..E")
	checkEach(t, list, find{"", "B", ""}, find{"", "D", "1 D"}, find{"", "", ""}, find{"", ".B", ""}, find{".B", "C", "2 .B.C"}, find{".B", "B", "1 .B"}, find{".B", "D", "1 D"}, find{".", "B", "1 .B"}, find{".", "C", ""}, find{"..E", "D", "1 D"}, find{"..E", "B", ""}, find{".B", "B.C", "2 .B.C"})
	checkModel(t, list)
	// Names with dots: what lies in nothing lies in nothing.
	list = []parse.Decl{message("A.B", message("C"), message("D.E")), message("C"), message("A.X"), message("A", message("Y"))}
	checkAll(t, list, "1 A.B", "1 A.B.C", "1 A.B.D.E", "1 C", "1 A.X", "1 A", "1 A.Y")
	checkEach(t, list, find{"", "A.B", ""}, find{"", "A.B.C", ""}, find{"", "A.X", ""}, find{"", "A.Y", "1 A.Y"}, find{"A.B", "C", "1 A.B.C"}, find{"A.B", "X", ""}, find{"A.B", "Y", ""}, find{"A.B.D.E", "C", "1 A.B.C"}, find{"A.B.D", "C", ""}, find{"A.B.C", "A", "1 A"}, find{"A.X", "C", "1 C"})
	checkModel(t, list)
	// Bytes of every sort are told as they are.
	for _, name := range append(slices.Clone(wrongPaths), strings.Repeat("x", 100000)) {
		checkAll(t, []parse.Decl{message(name, enum(name)), {Kind: 9, Name: name}}, "1 "+name, "2 "+name+"."+name, "9 "+name)
	}
	// What isn't asked may be of any sort.
	full := parse.Decl{Kind: 2, Name: "A", At: api.Pos{Line: -1, Col: math.MaxInt}, Fields: make([]parse.Field, 3), Values: make([]parse.Value, 3), Methods: make([]parse.Method, 3)}
	checkAll(t, []parse.Decl{full}, "2 A")
	checkFind(t, []parse.Decl{full}, "", "A", "2 A")
}

// dice make declarations, at random but always the same, of few names.
type dice struct{ *rand.Rand }

func (r dice) pick(list ...string) string { return list[r.Intn(len(list))] }

func (r dice) path() string {
	list := make([]string, 1+r.Intn(4))
	for i := range list {
		list[i] = r.pick("A", "B", "C", "λ")
	}
	return strings.Join(list, ".")
}

// formed answers declarations such as layer 5 reads, which lie in depth messages;
// fewer of them, if they are to have whole names of their own.
func (r dice) formed(depth int, own bool) []parse.Decl {
	var list []parse.Decl
	for range r.Intn(5) {
		d := parse.Decl{Kind: 1 + r.Intn(3), Name: r.pick("A", "B", "C", "λ")}
		if d.Kind == 3 && depth > 0 {
			d.Kind = 1
		}
		if own && slices.ContainsFunc(list, func(o parse.Decl) bool { return o.Name == d.Name }) {
			continue
		}
		if d.Kind == 1 && depth < 3 {
			d.Inner = r.formed(depth+1, own)
		}
		list = append(list, d)
	}
	return list
}

// wild answers declarations of any kinds and names, which lie in depth others.
func (r dice) wild(depth int) []parse.Decl {
	var list []parse.Decl
	for range r.Intn(4) {
		d := parse.Decl{Kind: r.Intn(5), Name: r.pick("A", "B", "A", "B", "", ".", "A.B", "B.A", ".A", "A.", "a b", "enum")}
		if r.Intn(2) > 0 {
			d.Kind = 1
		}
		if depth < 4 {
			d.Inner = r.wild(depth + 1)
		}
		list = append(list, d)
	}
	return list
}

// P7.1 and P7.2, for declarations of all sorts.
func TestRandom(t *testing.T) {
	r := dice{rand.New(rand.NewSource(7))}
	own, formed, wild := 0, 0, 0
	for range 1000 {
		list := r.formed(0, true)
		checkThemselves(t, list)
		own += checkModel(t, list, r.path(), r.path(), r.path())
		formed += checkModel(t, r.formed(0, false), r.path(), r.path(), r.path())
		wild += checkModel(t, r.wild(0), r.path(), r.path(), "A.B", "B.A.B")
	}
	if own < 10000 || formed < 10000 || wild < 10000 {
		t.Errorf("%d, %d and %d paths that mean something are too few", own, formed, wild)
	}
}

// spare answers list with one more declaration in its spare room.
func spare(list []parse.Decl) []parse.Decl {
	return append(slices.Clip(list), message("spare"))[:len(list)]
}

// apart asks that no text of an answer shares memory with one of the arguments.
func apart(t *testing.T, answer string, arguments ...string) {
	t.Helper()
	for _, a := range arguments {
		from, at := uintptr(unsafe.Pointer(unsafe.StringData(a))), uintptr(unsafe.Pointer(unsafe.StringData(answer)))
		if a != "" && answer != "" && at < from+uintptr(len(a)) && from < at+uintptr(len(answer)) {
			t.Errorf("%q shares memory with %q", answer, a)
		}
	}
}

// R2 and R3: answers hang on the arguments alone, which are left as they are, and
// are new memory.
func TestMemory(t *testing.T) {
	list, same := spare(read(t, sample)), spare(read(t, sample))
	list[1].Inner, same[1].Inner = spare(list[1].Inner), spare(same[1].Inner)
	var given []string
	for _, e := range entries(list) {
		given = append(given, e.name)
	}
	first, second := All(list), All(list)
	for i, s := range first {
		apart(t, s.Name, given...)
		apart(t, s.Name, second[i].Name)
		if s != second[i] {
			t.Errorf("%v, then %v", s, second[i])
		}
	}
	if first = first[:cap(first)]; &first[0] == &second[0] {
		t.Error("two answers share memory")
	}
	for _, a := range []find{{"", "A", "A"}, {"A.D", "E", "A.E"}, {"B", "E", "E"}, {"A.D.H", "A.D.F", "A.D.F"}, {"A", "none", ""}, {"E", "A", ""}} {
		one, ok := Find(list, a.scope, a.path)
		other, again := Find(list, a.scope, a.path)
		if one != other || ok != again || one.Name != a.want {
			t.Errorf("%v: %v, %v, then %v, %v", a, one, ok, other, again)
		}
		apart(t, one.Name, append(given, a.scope, a.path, a.want, other.Name)...)
	}
	clear(first)
	if !reflect.DeepEqual(list[:cap(list)], same[:cap(same)]) || !reflect.DeepEqual(list[1].Inner[:cap(list[1].Inner)], same[1].Inner[:cap(same[1].Inner)]) {
		t.Error("the argument was changed")
	}
	for i := range list {
		list[i] = parse.Decl{}
	}
	if second[1] != (Symbol{"A", 1}) || len(second) != 17 {
		t.Error("the answer changed with the argument")
	}
}

// R1: declarations of all kinds that lie far deeper than layer 5 reads, and many of them.
func TestDeepAndMany(t *testing.T) {
	for kind := range 5 {
		deep := []parse.Decl{enum("E")}
		for range 1000 {
			deep = []parse.Decl{{Kind: kind, Name: "A", Inner: deep}}
		}
		all := All(deep)
		if last := all[len(all)-1]; len(all) != 1001 || last != (Symbol{names(1000, "A") + ".E", 2}) {
			t.Errorf("%d declarations, the last one %.100v", len(all), last)
		}
		for i, s := range all[:1000] {
			if s.Name != names(i+1, "A") || s.Kind != kind {
				t.Fatalf("%d: %.100v", i, s)
			}
		}
	}
	const depth = 1<<16 - 1
	deep := []parse.Decl{nested("A", depth, enum("E")), message("B")}
	checkFind(t, deep, "", "A.A", "1 A.A")
	checkFind(t, deep, names(depth, "A"), "E", "2 "+names(depth, "A")+".E")
	checkFind(t, deep, names(depth, "A"), "B", "1 B")
	checkFind(t, deep, names(depth-7, "A"), names(7, "A")+".E", "2 "+names(depth, "A")+".E")
	checkFind(t, deep, names(depth, "A"), "F", "")
	checkFind(t, deep, names(depth, "A")+".E", "A", "")
	checkFind(t, deep, names(depth+1, "A"), "A", "")
	many := slices.Repeat([]parse.Decl{message("A", message("B", message("C")))}, 20000)
	many = append(many, message("D"), message("A", message("Z")))
	if all := All(many); len(all) != 60003 || all[59999] != (Symbol{"A.B.C", 1}) || all[60002] != (Symbol{"A.Z", 1}) {
		t.Errorf("%d declarations", len(all))
	}
	checkEach(t, many, find{"A.B.C", "D", "1 D"}, find{"A.Z", "D", "1 D"}, find{"A.Z", "Z", "1 A.Z"}, find{"", "A.Z", ""}, find{"A.B.X", "D", ""})
}

// P7.1 and P7.2, for whatever texts a run of the fuzzer finds.
func FuzzFind(f *testing.F) {
	for _, s := range []string{"", sample, "message A { message B {} } message B {}", "enum A {} service B {}"} {
		f.Add(s, "", "A")
		f.Add(s, "A", "B")
		f.Add(s, "A.D.H", "D.G")
	}
	f.Fuzz(func(t *testing.T, s, scope, path string) {
		list, _, err := parse.File(s)
		if err != api.OK {
			return
		}
		checkThemselves(t, list)
		checkFind(t, list, scope, path, model(entries(list), scope, path))
	})
}
