package schema

import (
	"fmt"
	"math"
	"reflect"
	"slices"
	"strings"
	"testing"
	"unicode/utf8"
	"unsafe"

	"courier/api"
	"courier/parse"
	"courier/print"
	"courier/scope"
)

// most is the greatest number that is a word.
const most = 2147483647

// longest is a name of as many bytes as one can have, and of as many runes.
var longest = strings.Repeat("ω", api.MaxName)

var typeWords = []string{"int64", "uint64", "sint64", "bool", "string", "bytes", "fixed32", "fixed64"}

var otherReserved = []string{"message", "enum", "service", "rpc", "returns", "repeated"}

// read answers the declarations of a text, which layer 5 must read.
func read(t *testing.T, text string) []parse.Decl {
	t.Helper()
	list, at, err := parse.File(text)
	if err != api.OK {
		t.Fatalf("File(%.300q) answers %v, %d", text, at, err)
	}
	return list
}

// right answers the schema of a text, which must have one; and asks P8.3 of it.
func right(t *testing.T, text string) api.Schema {
	t.Helper()
	list := read(t, text)
	s, at, err := Check(list)
	if at != (api.Pos{}) || err != api.OK {
		t.Fatalf("Check of %.300q answers %v, %d", text, at, err)
	}
	checkThird(t, s)
	compiled, at, err := Compile(text)
	if at != (api.Pos{}) || err != api.OK || !reflect.DeepEqual(s, compiled) {
		t.Errorf("Compile(%.300q) = %v, %v, %d, want %v", text, compiled, at, err, s)
	}
	return s
}

// checkThird asks P8.3 of a schema that Check told.
func checkThird(t *testing.T, s api.Schema) {
	t.Helper()
	if !Formed(s) {
		t.Errorf("%v was told, but isn't formed", s)
	}
	for i, m := range s.Methods {
		if m.ID != i+1 {
			t.Errorf("the method %d has the ID %d", i, m.ID)
		}
	}
}

// unmark answers a text without its first ^, and the place of what stood behind that.
func unmark(marked string) (string, api.Pos) {
	ahead, behind, _ := strings.Cut(marked, "^")
	line := ahead[strings.LastIndex(ahead, "\n")+1:]
	return ahead + behind, api.Pos{Line: 1 + strings.Count(ahead, "\n"), Col: 1 + utf8.RuneCountInString(line)}
}

// checkFaults asks that each text has the fault err right behind its ^.
func checkFaults(t *testing.T, err api.Errno, marked ...string) {
	t.Helper()
	for _, m := range marked {
		text, at := unmark(m)
		checkFault(t, read(t, text), at, err)
		s, place, e := Compile(text)
		if place != at || e != err || !reflect.DeepEqual(s, api.Schema{}) {
			t.Errorf("Compile(%.300q) = %v, %v, %d, want %v, %d", text, s, place, e, at, err)
		}
	}
}

// show answers the beginning of what something looks like.
func show(x any) string { return fmt.Sprintf("%.400s", fmt.Sprintf("%+v", x)) }

// checkFault asks that Check answers of list this fault.
func checkFault(t *testing.T, list []parse.Decl, at api.Pos, err api.Errno) {
	t.Helper()
	s, place, e := Check(list)
	if place != at || e != err || !reflect.DeepEqual(s, api.Schema{}) {
		t.Errorf("Check(%s) = %s, %v, %d, want %v, %d", show(list), show(s), place, e, at, err)
	}
}

// each answers form, in which % stands for a number, with the numbers from 1 to
// count, one behind the other.
func each(count int, form string) string {
	var b strings.Builder
	for i := range count {
		b.WriteString(strings.ReplaceAll(form, "%", fmt.Sprint(i+1)))
	}
	return b.String()
}

// sample has all sorts of declarations, each in mixed order.
const sample = `
service S { rpc m(B) returns (A.D); rpc b(A) returns (A); }
message A {
	enum E { z = 0; b = 2147483647; a = 5; }
	repeated E e = 7;
	D d = 18999;
	message D { A.C c = 2; E e = 1; repeated D d = 20000; message F {} enum G { y = 0; } F f = 536870911; }
	repeated fixed64 x = 1;
	enum C { z = 0; }
}
enum E { x = 0; }
service T {}
message B { A a = 2; E e = 1; message A { enum E { q = 0; } E e = 3; } A.E ae = 4; repeated bytes raw = 3; }
service Rest { rpc m(A.D.F) returns (B.A); }
`

func sampleSchema() api.Schema {
	return api.Schema{
		Messages: []api.MessageDef{
			{Name: "A", Fields: []api.FieldDef{
				{Number: 1, Name: "x", Kind: api.Fixed64, Repeated: true},
				{Number: 7, Name: "e", Kind: api.Enum, Repeated: true, Type: 0},
				{Number: 18999, Name: "d", Kind: api.Message, Type: 1},
			}},
			{Name: "A.D", Fields: []api.FieldDef{
				{Number: 1, Name: "e", Kind: api.Enum, Type: 0},
				{Number: 2, Name: "c", Kind: api.Enum, Type: 2},
				{Number: 20000, Name: "d", Kind: api.Message, Repeated: true, Type: 1},
				{Number: 536870911, Name: "f", Kind: api.Message, Type: 2},
			}},
			{Name: "A.D.F"},
			{Name: "B", Fields: []api.FieldDef{
				{Number: 1, Name: "e", Kind: api.Enum, Type: 3},
				{Number: 2, Name: "a", Kind: api.Message, Type: 4},
				{Number: 3, Name: "raw", Kind: api.Bytes, Repeated: true},
				{Number: 4, Name: "ae", Kind: api.Enum, Type: 4},
			}},
			{Name: "B.A", Fields: []api.FieldDef{{Number: 3, Name: "e", Kind: api.Enum, Type: 4}}},
		},
		Enums: []api.EnumDef{
			{Name: "A.E", Values: []api.ValueDef{{Name: "z", Number: 0}, {Name: "b", Number: most}, {Name: "a", Number: 5}}},
			{Name: "A.D.G", Values: []api.ValueDef{{Name: "y", Number: 0}}},
			{Name: "A.C", Values: []api.ValueDef{{Name: "z", Number: 0}}},
			{Name: "E", Values: []api.ValueDef{{Name: "x", Number: 0}}},
			{Name: "B.A.E", Values: []api.ValueDef{{Name: "q", Number: 0}}},
		},
		Methods: []api.MethodDef{
			{ID: 1, Service: "S", Name: "m", In: 3, Out: 1},
			{ID: 2, Service: "S", Name: "b", In: 0, Out: 0},
			{ID: 3, Service: "Rest", Name: "m", In: 2, Out: 4},
		},
	}
}

// P8.1: the chapter's examples.
func TestExamples(t *testing.T) {
	checkFaults(t, api.ErrCycle, "message ^A { B x = 1; } message B { A y = 1; }")
	for _, text := range []string{
		"message A { repeated B x = 1; } message B { A y = 1; }",
		"message A { B x = 1; } message B { repeated A y = 1; }",
	} {
		if s := right(t, text); len(s.Messages) != 2 {
			t.Errorf("%q: %v", text, s)
		}
	}
}

// P8.1 to P8.3: no declarations.
func TestNoDeclarations(t *testing.T) {
	for _, none := range [][]parse.Decl{nil, {}, make([]parse.Decl, 0, 3)} {
		s, at, err := Check(none)
		if !Same(s, api.Schema{}) || at != (api.Pos{}) || err != api.OK {
			t.Errorf("Check of nothing = %v, %v, %d", s, at, err)
		}
		checkThird(t, s)
	}
	for _, text := range []string{"", " \n", "// message A {}"} {
		if s := right(t, text); !Same(s, api.Schema{}) {
			t.Errorf("%q: %v", text, s)
		}
	}
}

// P8.1: the schema: all orders, whole names, Kinds, Types and IDs.
func TestSchema(t *testing.T) {
	if s, want := right(t, sample), sampleSchema(); !reflect.DeepEqual(s, want) {
		t.Errorf("%+v, want %+v", s, want)
	}
	s := right(t, "service S {} message A {} enum E { z = 0; }")
	if !Same(s, api.Schema{Messages: []api.MessageDef{{Name: "A"}}, Enums: []api.EnumDef{{Name: "E", Values: []api.ValueDef{{Name: "z"}}}}}) {
		t.Error(s)
	}
}

// P8.1: the Kind of each type.
func TestKinds(t *testing.T) {
	kinds := map[string]int{
		"int64": 1, "uint64": 2, "sint64": 3, "bool": 4, "string": 5, "bytes": 6, "fixed32": 7, "fixed64": 8, "E": 9, "B": 10,
	}
	for word, kind := range kinds {
		for repeated, ahead := range map[bool]string{false: "", true: "repeated "} {
			s := right(t, "message A { "+ahead+word+" λ = 3; } message C {} message B {} enum F { z = 0; } enum E { z = 0; }")
			want := api.FieldDef{Number: 3, Name: "λ", Kind: kind, Repeated: repeated}
			switch kind {
			case api.Enum:
				want.Type = 1
			case api.Message:
				want.Type = 2
			}
			if f := s.Messages[0].Fields; len(f) != 1 || f[0] != want {
				t.Errorf("%s%s: %v, want %v", ahead, word, f, want)
			}
		}
	}
	if len(kinds) != len(typeWords)+2 {
		t.Error("a type is missing")
	}
}

// P8.1: fields rise by numbers, in whatever order they are declared.
func TestFieldsRise(t *testing.T) {
	s := right(t, "message A { "+each(9, "bool x% = 20%; ")+each(9, "bool y% = 1%; ")+"bool a = 20; bool b = 3; bool c = 536870911; bool d = 1; }")
	var got []string
	for _, f := range s.Messages[0].Fields {
		got = append(got, fmt.Sprint(f.Name, "=", f.Number))
	}
	want := strings.Fields("d=1 b=3 " + each(9, "y%=1% ") + "a=20 " + each(9, "x%=20% ") + "c=536870911")
	if !slices.Equal(got, want) {
		t.Errorf("%v, want %v", got, want)
	}
}

// P8.1: just as many as there may be, and one too many.
func TestTooMany(t *testing.T) {
	messages, enums := each(api.MaxTypes, "message A% {} "), each(api.MaxTypes, "enum E% { z = 0; } ")
	methods := "message M {} service S { " + each(api.MaxMethods-2, "rpc m%(M) returns (M); ") + "} service T { rpc m1(M) returns (M); rpc m2(M) returns (M); "
	fields := "message A { " + each(api.MaxFields, "bool x% = %; ")
	s := right(t, messages+enums)
	if len(s.Messages) != api.MaxTypes || len(s.Enums) != api.MaxTypes {
		t.Errorf("%d messages, %d enums", len(s.Messages), len(s.Enums))
	}
	if s := right(t, methods+"} service U {}"); len(s.Methods) != api.MaxMethods {
		t.Errorf("%d methods", len(s.Methods))
	}
	if s := right(t, fields+"} message B { "+each(api.MaxFields, "bool x% = %; ")+"}"); len(s.Messages[0].Fields) != api.MaxFields {
		t.Errorf("%d fields", len(s.Messages[0].Fields))
	}
	// Neither services nor values are counted.
	right(t, each(200, "service S% {} ")+"enum E { z = 0; "+each(200, "v% = %; ")+"}")
}

func TestOneTooMany(t *testing.T) {
	messages, enums := each(api.MaxTypes, "message A% {} "), each(api.MaxTypes, "enum E% { z = 0; } ")
	methods := "message M {} service S { " + each(api.MaxMethods-1, "rpc m%(M) returns (M); ")
	fields := each(api.MaxFields, "bool x% = %; ")
	nested := "message A { message B { " + each(api.MaxTypes-2, "message C% {} ")
	checkFaults(t, api.ErrLong,
		messages+"message ^A {} message B {}",
		messages+enums+"service S {} message ^A {} enum B {}",
		enums+messages+"enum ^A {} message B {}",
		nested+"} } message ^D {}",
		nested+"} message ^D {} } message E {}",
		nested+"message ^D {} } message E {} }",
		// What lies in a message comes behind it, and its fields ahead of that.
		"message A { "+each(api.MaxTypes, "enum E% {} ")+"enum ^F {} bool x = 1; }",
		"message A { "+fields+" message B { "+fields+" bool ^x = 33; } }",
		"message A { "+each(api.MaxTypes, "message B% {} ")+fields+" bool ^x = 33; }",
		"message A { "+fields+" bool ^x = 33; bool y = 34; }",
		"message A { "+fields+"} message B { "+fields+" bool ^x33 = 33; }",
		messages[:len(messages)-3]+"{ "+fields+"bool ^x = 33; } message B {}",
		// The message itself is one too many, ahead of its field.
		messages+"message ^B { "+fields+"bool x = 33; }",
		methods+"rpc a(M) returns (M); rpc ^b(M) returns (M); rpc c(M) returns (M); }",
		methods+"rpc a(M) returns (M); } service T { rpc ^b(M) returns (M); }",
		methods+"} service T { rpc a(M) returns (M); rpc ^b(M) returns (M); } service U { rpc c(M) returns (M); }",
		methods+"rpc a(M) returns (M); } service T {} service U { rpc ^b(M) returns (M); }",
		"service S { "+each(api.MaxMethods, "rpc m%(M) returns (M); ")+"rpc ^a(M) returns (M); }",
	)
}

// P8.1: of ErrLong, too, declarations are asked in the order of All.
func TestTooManyInOrder(t *testing.T) {
	messages, enums := each(api.MaxTypes, "message A% {} "), each(api.MaxTypes, "enum E% {} ")
	fields := each(api.MaxFields, "bool x% = %; ")
	methods := each(api.MaxMethods, "rpc m%(M) returns (M); ")
	checkFaults(t, api.ErrLong,
		"message F { "+fields+"bool ^x = 33; } "+messages,
		messages+"message ^F { bool x = 1; } message G { "+fields+"bool x = 33; }",
		"service S { "+methods+"rpc ^n(M) returns (M); } "+messages+"message B {} "+enums+"enum C {}",
		messages+"message ^B {} "+enums+"enum C {} service S { "+methods+"rpc n(M) returns (M); }",
		enums+"enum ^C {} "+messages+"message B {}",
		messages+enums+"enum ^C {} message B {}",
		"enum F {} message A { "+strings.Replace(enums, "E64", "^E64", 1)+"} message B { "+fields+"bool y = 33; }",
	)
}

// P8.1: one NAME twice.
func TestNames(t *testing.T) {
	for _, one := range []string{"message", "enum", "service"} {
		for _, other := range []string{"message", "enum", "service"} {
			checkFaults(t, api.ErrName,
				one+" A {} "+other+" ^A {}",
				one+" A {} message B {} "+other+" ^A {} "+one+" A {}",
				"message λ {} "+one+" A {} service B {} "+other+" ^A {} enum B {}")
			if one == "service" || other == "service" {
				continue
			}
			checkFaults(t, api.ErrName,
				"message M { "+one+" A {} "+other+" ^A {} }",
				"message M { message N { "+one+" A {} enum B {} "+other+" ^A {} } }")
		}
	}
	checkFaults(t, api.ErrName,
		"message A { int64 x = 1; bool ^x = 2; }",
		"message A { int64 x = 1; int64 y = 2; int64 ^x = 1; }",
		"message A { A x = 1; repeated A y = 2; A ^y = 3; A x = 4; }",
		"enum E { a = 0; ^a = 1; }",
		"enum E { a = 0; b = 1; c = 2; ^b = 1; a = 0; }",
		"service S { rpc m(A) returns (A); rpc ^m(B) returns (B); }",
		"service S { rpc m(A) returns (A); rpc n(A) returns (A); rpc ^n(A) returns (A); rpc m(A) returns (A); }",
		"message A { message B { bool "+longest+" = 1; bool ^"+longest+" = 2; } }",
	)
}

// P8.1: of a field and a declaration that lies right in its message, the field is told.
func TestNamesOfFieldAndDeclaration(t *testing.T) {
	checkFaults(t, api.ErrName,
		"message A { int64 ^E = 1; enum E { z = 0; } }",
		"message A { enum E { z = 0; } int64 ^E = 1; }",
		"message A { E ^E = 1; enum E { z = 0; } }",
		"message A { message B {} int64 x = 1; int64 ^B = 2; }",
		"message A { message B {} enum C {} message D { message E {} E ^E = 1; } }",
		"message A { int64 ^B = 1; int64 B = 2; message B {} }",
		"message A { int64 ^B = 1; message B {} message B {} }",
		"message A { int64 x = 1; int64 ^x = 2; message B {} int64 B = 3; }",
		"message A { int64 x = 1; int64 ^B = 3; message B {} int64 x = 2; }",
	)
}

// P8.1: the same NAME where it may stand again.
func TestNamesAgain(t *testing.T) {
	for _, text := range []string{
		"message A { message A { message A { enum A { A = 0; } } } }",
		"message A { bool A = 1; }",
		"message A { message B { bool B = 1; } message C { bool B = 1; } } message B { bool A = 1; bool C = 2; bool S = 3; } message C {}",
		"message A { bool x = 1; message B { bool x = 1; enum C { x = 0; } } } enum x { x = 0; B = 1; A = 2; }",
		"message A { enum E { z = 0; } } enum E { z = 0; E = 1; A = 2; }",
		"message A { enum E { B = 0; C = 1; } enum F { B = 0; C = 1; E = 2; } bool z = 1; bool S = 2; } service S { rpc S(A) returns (A); rpc A(A) returns (A); }",
		"message A {} service S { rpc m(A) returns (A); } service T { rpc m(A) returns (A); rpc T(A) returns (A); } service m {}",
		"message A { message S {} } service S {}",
		"message A {} message a {} message AA {} message λ {} message Λ {} message A_ {} message A1 {}",
		"message A { bool x = 1; bool X = 2; bool x_ = 3; bool xx = 4; }",
	} {
		right(t, text)
	}
}

// P8.1: the numbers of fields.
func TestFieldNumbers(t *testing.T) {
	for _, n := range []int{1, 2, 15, 16, 2047, 2048, 18999, 20000, 1<<29 - 2, api.MaxField} {
		s := right(t, fmt.Sprintf("message A { bool x = %d; }", n))
		if f := s.Messages[0].Fields; len(f) != 1 || f[0].Number != n {
			t.Errorf("%d: %v", n, f)
		}
	}
	for _, n := range []int{0, 19000, 19001, 19500, 19998, 19999, api.MaxField + 1, api.MaxField + 2, 1 << 30, most} {
		checkFaults(t, api.ErrNumber,
			fmt.Sprintf("message A { bool ^x = %d; }", n),
			fmt.Sprintf("message A { bool x = 1; repeated A ^y = %d; bool z = 0; }", n),
			fmt.Sprintf("enum E { z = 0; } message A { message B { E ^e = %d; } E e = 1; }", n))
	}
	checkFaults(t, api.ErrNumber,
		"message A { bool x = 1; bool ^y = 1; }",
		"message A { bool x = 3; bool y = 2; bool z = 1; bool ^u = 2; bool v = 3; }",
		"message A { bool x = 536870911; message B { bool x = 536870911; bool ^y = 536870911; } }",
		"message A { bool ^x = 19000; bool y = 19000; }",
		"message A { bool x = 1; bool ^y = 1; bool z = 0; }",
	)
	// The same number in another message.
	right(t, "message A { bool x = 1; message B { bool x = 1; } } message C { bool x = 1; bool y = 2; }")
}

// P8.1: the numbers of values.
func TestValueNumbers(t *testing.T) {
	checkFaults(t, api.ErrNumber,
		"enum ^E {}", "enum E { z = 0; } enum ^F {}", "message A { enum ^E {} }", "message A { message B { enum E { z = 0; } enum ^F {} } }",
		"enum E { ^a = 1; }", "enum E { ^a = 2147483647; b = 0; }", "enum E { ^a = 1; b = 1; }",
		"enum E { a = 0; ^b = 0; }", "enum E { a = 0; b = 1; ^c = 1; d = 0; }", "enum E { a = 0; b = 2147483647; ^c = 2147483647; }",
		"enum E { a = 0; b = 3; c = 2; ^d = 0; e = 3; }",
	)
	s := right(t, "enum E { a = 0; b = 2147483647; c = 19000; d = 1; } enum F { a = 0; b = 1; }")
	if want := []api.ValueDef{{Name: "a", Number: 0}, {Name: "b", Number: most}, {Name: "c", Number: 19000}, {Name: "d", Number: 1}}; !slices.Equal(s.Enums[0].Values, want) {
		t.Errorf("%v, want %v", s.Enums[0].Values, want)
	}
}

// P8.1: the round of numbers goes by the order of All.
func TestNumbersInOrder(t *testing.T) {
	checkFaults(t, api.ErrNumber,
		"enum ^E {} message A { bool x = 0; }",
		"message A { bool ^x = 0; } enum E {}",
		"message A { enum E {} bool ^x = 0; }",
		"message A { message B { enum ^E {} } message C { bool x = 0; } } message D { bool x = 0; }",
		"message A { enum E { z = 0; ^y = 0; } } enum F { z = 1; }",
		"service S {} enum E { ^z = 1; } enum F {}",
	)
}

// P8.1: the paths of fields.
func TestFieldTypes(t *testing.T) {
	checkFaults(t, api.ErrType,
		"message A { B ^x = 1; }", "message A { repeated B ^x = 1; }", "message A { bool x = 1; B ^y = 2; C z = 3; }",
		"message A { S ^x = 1; } service S {}", "message A { A.A ^x = 1; }", "message A { A.B ^x = 1; message C { message B {} } }",
		"message A { message B { C ^x = 1; } message D { message C {} } }",
		"message A { E.z ^x = 1; enum E { z = 0; } }", "message A { x ^x = 1; }", "message A { S.m ^x = 1; } service S { rpc m(A) returns (A); }",
		// The first one found is meant, and no other is looked for.
		"message A { message B {} B.C ^x = 1; } message B { message C {} }",
		"message A { enum B { z = 0; } B.C ^x = 1; } message B { message C {} }",
		"message A { a ^x = 1; }",
		"message A { λ ^x = 1; } message Λ {}",
		"message A { B.A ^x = 1; }",
		"message A { message B { A.B.C ^x = 1; } }",
		// A field of the greatest number, told first though it comes last in the schema.
		"message A { B ^x = 9; C y = 1; }",
	)
	s := right(t, `
message A { message B { B b = 1; E e = 2; A.E f = 3; C.B g = 4; D h = 5; message D {} message B {} } enum E { z = 0; } }
message C { message B { enum A { z = 0; } A a = 1; C.B.A b = 2; E c = 3; } }
enum E { z = 0; }
message D { repeated D d = 1; A.B.D e = 2; }`)
	want := [][]string{
		{}, {"10 A.B.B", "9 A.E", "9 A.E", "10 C.B", "10 A.B.D"}, {}, {}, {},
		{"9 C.B.A", "9 C.B.A", "9 E"}, {"10 D", "10 A.B.D"},
	}
	for i, m := range s.Messages {
		got := []string{}
		for _, f := range m.Fields {
			name := s.Messages[f.Type%len(s.Messages)].Name
			if f.Kind == api.Enum {
				name = s.Enums[f.Type].Name
			}
			got = append(got, fmt.Sprint(f.Kind, " ", name))
		}
		if !slices.Equal(got, want[i]) {
			t.Errorf("%s: %v, want %v", m.Name, got, want[i])
		}
	}
}

// P8.1: the paths of methods, which are looked for in "".
func TestMethodTypes(t *testing.T) {
	declared := "message A { message B { message C {} } enum E { z = 0; } } enum E { z = 0; } service T { rpc m(A) returns (A); } "
	checkFaults(t, api.ErrType,
		declared+"service S { rpc ^m(E) returns (A); }", declared+"service S { rpc ^m(A) returns (E); }",
		declared+"service S { rpc ^m(A.E) returns (A.B); }", declared+"service S { rpc ^m(A.B) returns (A.E); }",
		declared+"service S { rpc ^m(S) returns (A); }", declared+"service S { rpc ^m(A) returns (T); }",
		declared+"service S { rpc ^m(B) returns (A); }", declared+"service S { rpc ^m(A) returns (A.C); }",
		declared+"service S { rpc ^m(none) returns (A); }", declared+"service S { rpc ^m(A) returns (none); }",
		declared+"service S { rpc m(A) returns (A.B.C); rpc ^n(A) returns (X); rpc o(X) returns (X); }",
		declared+"service S { rpc ^m(X) returns (E); rpc n(X) returns (X); }",
		declared+"service S {} service U { rpc m(A.B) returns (A.B.C); } service V { rpc m(A) returns (A); rpc ^n(m) returns (A); }",
		declared+"service S { rpc ^m(T.m) returns (A); }",
	)
	s := right(t, declared+"service S { rpc m(A.B.C) returns (A.B); rpc n(A) returns (A.B.C); }")
	want := []api.MethodDef{{ID: 1, Service: "T", Name: "m"}, {ID: 2, Service: "S", Name: "m", In: 2, Out: 1}, {ID: 3, Service: "S", Name: "n", Out: 2}}
	if !slices.Equal(s.Methods, want) {
		t.Errorf("%v, want %v", s.Methods, want)
	}
}

// P8.1: the round of types goes by the order of All, whatever the kinds.
func TestTypesInOrder(t *testing.T) {
	checkFaults(t, api.ErrType,
		"service S { rpc ^m(X) returns (X); } message A { X x = 1; }",
		"message A { X ^x = 1; } service S { rpc m(X) returns (X); }",
		"message A { message B { X x = 1; } X ^x = 1; }",
		"message A { message B { X ^x = 1; } } message C { X x = 1; }",
	)
}

// P8.1: rings of messages of one and more.
func TestCycles(t *testing.T) {
	checkFaults(t, api.ErrCycle,
		"message ^A { A a = 1; }",
		"message ^A { bool x = 1; repeated A y = 2; A z = 3; }",
		"message ^A { B b = 1; } message B { C c = 1; } message C { A a = 1; }",
		"message ^A { message B { A a = 1; } B b = 1; }",
		"message A { message ^B { B b = 1; } }",
		"message A { message ^B { message C { B b = 1; } C c = 1; } }",
		// One that leads to a ring, but isn't in it.
		"message A { B b = 1; } message ^B { B b = 1; }",
		"message A { B b = 1; } message B { C c = 1; } message ^C { D d = 1; } message D { C c = 1; }",
		"message A { C c = 1; } message ^B { C c = 1; } message C { D d = 1; } message D { B b = 1; }",
		// Two rings, and one in another one.
		"message X {} message ^A { A a = 1; } message B { B b = 1; }",
		"message Z { B b = 1; } message ^A { C c = 1; } message B { B b = 1; } message C { A a = 1; B b = 2; }",
		"message ^A { B x = 1; C y = 2; } message B { repeated A a = 1; } message C { A a = 1; }",
		"enum E { z = 0; } service S { rpc m(B) returns (A); } enum F { z = 0; } message B { message ^A { B.A a = 1; } } message A { A a = 1; }",
		// The field of the ring isn't the last one of its type.
		"message ^A { B x = 1; repeated B y = 2; } message B { repeated A x = 1; A y = 2; repeated A z = 3; }",
	)
	for _, text := range []string{
		"message A { repeated A a = 1; }",
		"message A { B b = 1; } message B { repeated C c = 1; } message C { A a = 1; }",
		"message A { B b = 1; C c = 2; } message B { D d = 1; } message C { D d = 1; } message D {}",
		"message A { message B { repeated A a = 1; } B b = 1; B c = 2; repeated B d = 3; }",
		"message A { E e = 1; enum E { z = 0; } }",
		"message A {} service S { rpc m(A) returns (A); }",
		"message B { A a = 1; message A {} } message A { B b = 1; }",
	} {
		right(t, text)
	}
	// Type 0 of a field that isn't of a message isn't the first message.
	right(t, "message A { bool x = 1; E e = 2; } enum E { z = 0; }")
}

// ring answers so many messages, from A1 on, each of which needs the next one, and the last one A1.
func ring(count int) string {
	var b strings.Builder
	for i := range count {
		fmt.Fprintf(&b, "message A%d { A%d n = 1; } ", i+1, (i+1)%count+1)
	}
	return b.String()
}

// P8.1: long rings and long ways without a ring.
func TestLongRings(t *testing.T) {
	for _, last := range []int{1, 2, 3, 63, 64} {
		checkFaults(t, api.ErrCycle, "message ^"+ring(last)[len("message "):])
		text := ring(last)
		cut := strings.LastIndex(text, "{ A1 n = 1; }")
		right(t, text[:cut]+"{} ")
		right(t, text[:cut]+"{ repeated A1 n = 1; } ")
	}
	// All ways at once, none of them back.
	var b strings.Builder
	for i := range api.MaxTypes {
		fmt.Fprintf(&b, "message A%d { ", i)
		for k := i + 1; k < api.MaxTypes && k <= i+4; k++ {
			fmt.Fprintf(&b, "A%d n%d = %d; ", k, k, k)
		}
		b.WriteString("} ")
	}
	right(t, b.String())
}

// faults are declarations with one fault each, of one round, with names of their own.
var faults = []struct {
	err  api.Errno
	text string
}{
	{api.ErrLong, "message Long { " + each(api.MaxFields, "bool x% = %; ") + "bool ^y = 33; } "},
	{api.ErrName, "message Name { bool x = 1; bool ^x = 2; } "},
	{api.ErrNumber, "message Number { bool ^x = 0; } "},
	{api.ErrNumber, "enum Empty1 { z = 0; } enum ^Empty {} "},
	{api.ErrType, "message Type { None ^x = 1; } "},
	{api.ErrType, "service Method { rpc ^m(None) returns (None); } "},
	{api.ErrCycle, "message ^Cycle { Cycle x = 1; } "},
}

// P8.1: several errors at once: the first round counts, wherever its error stands;
// of one round the first one.
func TestRounds(t *testing.T) {
	for i, one := range faults {
		for k, other := range faults {
			plain := strings.Replace(other.text, "^", "", 1)
			switch {
			case i == k:
				checkFaults(t, one.err, one.text)
			case rank(one.err) < rank(other.err):
				checkFaults(t, one.err, one.text+plain, plain+one.text)
			case one.err == other.err:
				checkFaults(t, one.err, one.text+plain)
			}
		}
	}
	later := ""
	for _, f := range slices.Backward(faults) {
		checkFaults(t, f.err, f.text+later)
		later = strings.Replace(f.text, "^", "", 1) + later
	}
	checkFaults(t, api.ErrLong, faults[0].text+"message Long {}", "message A { bool x = 0; bool x = 0; None y = 1; A a = 2; message x {} "+faults[0].text+"}")
	checkFaults(t, api.ErrName, "message A { bool x = 0; bool ^x = 0; None y = 1; A a = 2; }", "enum A {} enum ^A { y = 1; y = 1; }")
	checkFaults(t, api.ErrNumber, "message A { None y = 1; A a = 2; bool ^x = 0; }")
	checkFaults(t, api.ErrType, "message A { A a = 2; None ^y = 1; }")
}

// rank answers the round of an error.
func rank(err api.Errno) int {
	return slices.Index([]api.Errno{api.ErrLong, api.ErrName, api.ErrNumber, api.ErrType, api.ErrCycle}, err)
}

// P8.1: in the round of names: the order of All, and of a declaration its own NAME
// first, then what is in it, then those that lie in it.
func TestNamesInOrder(t *testing.T) {
	checkFaults(t, api.ErrName,
		"message A { bool x = 1; bool ^x = 2; } message A {}",
		"message A {} message ^A { bool x = 1; bool x = 2; }",
		"message A { message B {} message B {} bool x = 1; bool ^x = 2; }",
		"message A { message B {} message ^B { enum E { a = 0; a = 1; } } } message C { bool x = 1; bool x = 2; }",
		"message A { message B { enum E { a = 0; ^a = 1; } } message B {} } message A {}",
		"service S { rpc m(A) returns (A); rpc ^m(A) returns (A); } enum E { a = 0; a = 1; }",
		"enum E { a = 0; ^a = 1; } service S { rpc m(A) returns (A); rpc m(A) returns (A); }",
		"message A { message B {} } message ^A { message B {} }",
		"message A { message B { bool ^C = 1; enum C {} } } message A { bool B = 1; message B {} }",
		"service A {} message B {} enum ^A {} enum B {}",
	)
}

// P8.1: declarations that aren't formed, whatever else is wrong with them.
func TestNotFormed(t *testing.T) {
	at := api.Pos{Line: 3, Col: 4}
	good := parse.Field{Type: "bool", Name: "x", Number: 1, At: at}
	for _, d := range []parse.Decl{
		{}, {Name: "A"}, {Kind: 1}, {Kind: 4, Name: "A"}, {Kind: -1, Name: "A"}, {Kind: math.MaxInt, Name: "A"},
		{Kind: 1, Name: "1"}, {Kind: 1, Name: "A.B"}, {Kind: 2, Name: "enum"}, {Kind: 3, Name: "é"}, {Kind: 3, Name: longest + "a"}, {Kind: 1, Name: "\xff"},
		{Kind: 1, Name: "A", Values: []parse.Value{{Name: "a"}}}, {Kind: 1, Name: "A", Methods: []parse.Method{{Name: "m", In: "A", Out: "A"}}},
		{Kind: 1, Name: "A", Inner: []parse.Decl{{Kind: 3, Name: "S"}}}, {Kind: 1, Name: "A", Inner: []parse.Decl{{}}},
		{Kind: 2, Name: "A", Fields: []parse.Field{good}}, {Kind: 2, Name: "A", Inner: []parse.Decl{{Kind: 1, Name: "B"}}},
		{Kind: 3, Name: "A", Inner: []parse.Decl{{Kind: 1, Name: "B"}}}, {Kind: 3, Name: "A", Fields: []parse.Field{good}},
		{Kind: 1, Name: "A", Fields: []parse.Field{{}}}, {Kind: 1, Name: "A", Fields: []parse.Field{{Type: "message", Name: "x", Number: 1}}},
		{Kind: 1, Name: "A", Fields: []parse.Field{{Type: "", Name: "x", Number: 1}}}, {Kind: 1, Name: "A", Fields: []parse.Field{{Type: "A..A", Name: "x", Number: 1}}},
		{Kind: 1, Name: "A", Fields: []parse.Field{{Type: "bool", Name: "bool", Number: 1}}}, {Kind: 1, Name: "A", Fields: []parse.Field{{Type: "bool", Name: "x", Number: -1}}},
		{Kind: 1, Name: "A", Fields: []parse.Field{{Type: "bool", Name: "x", Number: most + 1}}}, {Kind: 1, Name: "A", Fields: []parse.Field{{Type: "bool", Name: "x", Number: math.MinInt}}},
		{Kind: 2, Name: "A", Values: []parse.Value{{Name: "a", Number: 0}, {Name: "b", Number: -1}}}, {Kind: 2, Name: "A", Values: []parse.Value{{Name: "", Number: 0}}},
		{Kind: 3, Name: "A", Methods: []parse.Method{{Name: "m"}}}, {Kind: 3, Name: "A", Methods: []parse.Method{{Name: "m", In: "A", Out: "bool"}}},
		deep("A", api.MaxNest+1), deep("A", 1<<16-1),
	} {
		d.At = at
		list := []parse.Decl{d}
		checkFault(t, list, api.Pos{}, api.ErrArg)
		checkFault(t, []parse.Decl{{Kind: 1, Name: "A", At: at}, {Kind: 1, Name: "A", At: at}, d}, api.Pos{}, api.ErrArg)
		checkFault(t, append(slices.Repeat([]parse.Decl{{Kind: 1, Name: "A", At: at}}, 100), d), api.Pos{}, api.ErrArg)
		checkFault(t, []parse.Decl{{Kind: 1, Name: "Z", Inner: list}}, api.Pos{}, api.ErrArg)
	}
}

// deep answers messages of one name that lie so deep in one another.
func deep(name string, depth int) parse.Decl {
	d := parse.Decl{Kind: 1, Name: name}
	for range depth - 1 {
		d = parse.Decl{Kind: 1, Name: name, Inner: []parse.Decl{d}}
	}
	return d
}

// P8.1: places are told as they are, and aren't asked.
func TestPlaces(t *testing.T) {
	for _, at := range []api.Pos{{}, {Line: -1, Col: -2}, {Line: math.MaxInt, Col: math.MinInt}, {Line: 7}} {
		checkFault(t, []parse.Decl{{Kind: 1, Name: "A"}, {Kind: 3, Name: "A", At: at}}, at, api.ErrName)
		checkFault(t, []parse.Decl{{Kind: 2, Name: "A", At: at}}, at, api.ErrNumber)
		checkFault(t, []parse.Decl{{Kind: 1, Name: "A", Fields: []parse.Field{{Type: "A", Name: "a", Number: 1}}, At: at}}, at, api.ErrCycle)
		checkFault(t, []parse.Decl{{Kind: 1, Name: "A", Fields: []parse.Field{{Type: "B", Name: "a", Number: 1, At: at}}}}, at, api.ErrType)
		checkFault(t, []parse.Decl{{Kind: 2, Name: "A", Values: []parse.Value{{Name: "a", Number: 1, At: at}}}}, at, api.ErrNumber)
		checkFault(t, []parse.Decl{{Kind: 3, Name: "A", Methods: []parse.Method{{Name: "a", In: "A", Out: "A", At: at}}}}, at, api.ErrType)
	}
	list := parse.Strip(read(t, sample))
	if s, at, err := Check(list); !reflect.DeepEqual(s, sampleSchema()) || at != (api.Pos{}) || err != api.OK {
		t.Errorf("%v, %v, %d", s, at, err)
	}
}

// P8.1: messages that lie as deep as they may. An enum in the last one has a whole
// name that is no path, so that P8.3 can't hold for it; it is told all the same.
func TestNested(t *testing.T) {
	for depth := 1; depth <= api.MaxNest; depth++ {
		head := strings.Repeat("message "+longest+" { ", depth)
		tail := strings.Repeat("} ", depth)
		whole := strings.Join(slices.Repeat([]string{longest}, depth), ".")
		s := right(t, head+"repeated "+longest+" x = 1; "+tail+"service S { rpc m("+whole+") returns ("+longest+"); }")
		last := s.Messages[depth-1]
		if last.Name != whole || last.Fields[0].Type != depth-1 || s.Methods[0].In != depth-1 || s.Methods[0].Out != 0 {
			t.Errorf("%d: %v", depth, s)
		}
		checkFaults(t, api.ErrCycle, head[:strings.LastIndex(head, longest)]+"^"+longest+" { "+longest+" x = 1; "+tail)
		s, at, err := Compile(head + "E e = 1; enum E { z = 0; } " + tail)
		if at != (api.Pos{}) || err != api.OK || len(s.Enums) != 1 || s.Enums[0].Name != whole+".E" || s.Messages[depth-1].Fields[0].Kind != api.Enum {
			t.Errorf("%d: %v, %v, %d", depth, s, at, err)
		}
		if Formed(s) != (depth < api.MaxNest) {
			t.Errorf("%d: Formed(%v) = %v", depth, s, Formed(s))
		}
	}
}

// P8.2: Compile answers layer 5's errors and places.
func TestCompile(t *testing.T) {
	for marked, want := range map[string]api.Errno{
		"message A {^":                                             api.ErrSyntax,
		"message ^message {}":                                      api.ErrSyntax,
		"enum E { a = 1; }\nservice ^{":                            api.ErrSyntax,
		"message A {} message A {} ^x":                             api.ErrSyntax,
		"message A { bool x = ^01; }":                              api.ErrLex,
		"message A {}\n\n  ^é":                                     api.ErrLex,
		"message A { bool x = ^2147483648; }":                      api.ErrLex,
		"message A { ^a.b.c.d.e.f.g.h.i x = 1; }":                  api.ErrDeep,
		strings.Repeat("message A { ", api.MaxNest) + "^message B": api.ErrDeep,
		"^" + strings.Repeat(" ", api.MaxSource+1):                 api.ErrLong,
		each(api.MaxTokens/4, "message A {} ") + "^message":        api.ErrLong,
	} {
		text, at := unmark(marked)
		_, parsed, parseErr := parse.File(text)
		s, place, err := Compile(text)
		if place != at || err != want || parsed != at || parseErr != want || !reflect.DeepEqual(s, api.Schema{}) {
			t.Errorf("Compile(%.200q) = %v, %v, %d, want %v, %d", text, s, place, err, at, want)
		}
	}
}

// R1: far more declarations than there may be, and many of those that aren't counted.
func TestMany(t *testing.T) {
	const many = 100000
	at := api.Pos{Line: 5, Col: 6}
	for kind := 1; kind <= 2; kind++ {
		list := make([]parse.Decl, many)
		for i := range list {
			list[i] = parse.Decl{Kind: kind, Name: "A"}
		}
		list[api.MaxTypes].At = at
		checkFault(t, list, at, api.ErrLong)
	}
	values := make([]parse.Value, many)
	services := make([]parse.Decl, many)
	for i := range values {
		values[i] = parse.Value{Name: fmt.Sprint("v", i), Number: i}
		services[i] = parse.Decl{Kind: 3, Name: fmt.Sprint("S", i)}
	}
	list := append(services, parse.Decl{Kind: 2, Name: "E", Values: values})
	for i := range api.MaxTypes {
		d := parse.Decl{Kind: 1, Name: fmt.Sprint("A", i)}
		for k := range api.MaxFields {
			d.Fields = append(d.Fields, parse.Field{Repeated: true, Type: fmt.Sprint("A", k), Name: fmt.Sprint("x", k), Number: k + 1})
		}
		list = append(list, d)
	}
	s, place, err := Check(list)
	if place != (api.Pos{}) || err != api.OK || len(s.Enums[0].Values) != many || len(s.Messages) != api.MaxTypes || s.Messages[7].Fields[31].Type != 31 {
		t.Fatalf("%v, %d", place, err)
	}
	checkThird(t, s)
	values[many-1] = parse.Value{Name: "v", Number: many - 2, At: at}
	checkFault(t, list, at, api.ErrNumber)
	values[many-1] = parse.Value{Name: "v0", Number: many - 1, At: at}
	checkFault(t, list, at, api.ErrName)
}

// texts answers all texts of a schema.
func texts(s api.Schema) []string {
	var out []string
	for _, m := range s.Messages {
		out = append(out, m.Name)
		for _, f := range m.Fields {
			out = append(out, f.Name)
		}
	}
	for _, e := range s.Enums {
		out = append(out, e.Name)
		for _, v := range e.Values {
			out = append(out, v.Name)
		}
	}
	for _, m := range s.Methods {
		out = append(out, m.Service, m.Name)
	}
	return out
}

// given answers all texts of declarations.
func given(list []parse.Decl) []string {
	var out []string
	for _, d := range list {
		out = append(out, d.Name)
		for _, f := range d.Fields {
			out = append(out, f.Name, f.Type)
		}
		for _, v := range d.Values {
			out = append(out, v.Name)
		}
		for _, m := range d.Methods {
			out = append(out, m.Name, m.In, m.Out)
		}
		out = append(out, given(d.Inner)...)
	}
	return out
}

// apart asks that answer shares no memory with one of others.
func apart(t *testing.T, answer string, others ...string) {
	t.Helper()
	at := uintptr(unsafe.Pointer(unsafe.StringData(answer)))
	for _, o := range others {
		from := uintptr(unsafe.Pointer(unsafe.StringData(o)))
		if o != "" && answer != "" && at < from+uintptr(len(o)) && from < at+uintptr(len(answer)) {
			t.Errorf("%q shares memory with %q", answer, o)
		}
	}
}

// roomy answers list, each list in it with spare room that isn't empty.
func roomy(list []parse.Decl) []parse.Decl {
	out := make([]parse.Decl, 0, len(list)+1)
	for _, d := range list {
		d.Fields = append(slices.Clip(d.Fields), parse.Field{Name: "spare"})[:len(d.Fields)]
		d.Values = append(slices.Clip(d.Values), parse.Value{Name: "spare"})[:len(d.Values)]
		d.Methods = append(slices.Clip(d.Methods), parse.Method{Name: "spare"})[:len(d.Methods)]
		d.Inner = roomy(d.Inner)
		out = append(out, d)
	}
	return append(out, parse.Decl{Name: "spare"})[:len(list)]
}

// whole answers list with all the spare room of its lists.
func whole(list []parse.Decl) []parse.Decl {
	out := slices.Clone(list[:cap(list)])
	for i, d := range out {
		out[i].Fields, out[i].Values, out[i].Methods = d.Fields[:cap(d.Fields)], d.Values[:cap(d.Values)], d.Methods[:cap(d.Methods)]
		out[i].Inner = whole(d.Inner)
	}
	return out
}

// R2 and R3: answers hang on the arguments alone, which are left as they are, spare
// room too, and are new memory.
func TestMemory(t *testing.T) {
	text := strings.Clone(sample)
	list, same := roomy(read(t, sample)), roomy(read(t, sample))
	first, _, _ := Check(list)
	second, _, _ := Check(list)
	compiled, _, _ := Compile(text)
	if !reflect.DeepEqual(whole(list), whole(same)) {
		t.Error("the argument was changed")
	}
	if !reflect.DeepEqual(first, second) || !reflect.DeepEqual(first, compiled) {
		t.Errorf("%v, then %v, then %v", first, second, compiled)
	}
	parts, others := texts(first), append(append(given(list), texts(second)...), text)
	for i, part := range parts {
		apart(t, part, others...)
		apart(t, part, parts[:i]...)
	}
	for _, part := range texts(compiled) {
		apart(t, part, text)
	}
	// What is written into one list of an answer, spare room too, isn't seen in another one.
	for i, m := range first.Messages {
		for k := range m.Fields[:cap(m.Fields)] {
			first.Messages[i].Fields[:cap(m.Fields)][k] = api.FieldDef{Name: "other"}
		}
		for k, n := range first.Messages {
			if k > i && !slices.Equal(n.Fields, second.Messages[k].Fields) {
				t.Error("two lists of one answer share memory")
			}
		}
	}
	for i, e := range first.Enums {
		clear(first.Enums[i].Values[:cap(e.Values)])
		for k, n := range first.Enums {
			if k > i && !slices.Equal(n.Values, second.Enums[k].Values) {
				t.Error("two lists of one answer share memory")
			}
		}
	}
	if !reflect.DeepEqual(second, compiled) || !reflect.DeepEqual(whole(list), whole(same)) {
		t.Error("answers share memory with each other, or with the argument")
	}
}

// R3: faults, too, leave the argument as it is.
func TestMemoryOfFaults(t *testing.T) {
	for _, f := range faults {
		text, _ := unmark(f.text + sample)
		list, same := roomy(read(t, text)), roomy(read(t, text))
		Check(list)
		if !reflect.DeepEqual(whole(list), whole(same)) {
			t.Errorf("%d: the argument was changed", f.err)
		}
	}
}

// The sample is such as the layers ahead promise things of.
func TestSample(t *testing.T) {
	list := read(t, sample)
	if !print.Formed(list) || len(scope.All(list)) != 13 {
		t.Error("the sample isn't right")
	}
}
