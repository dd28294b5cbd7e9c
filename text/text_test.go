package text

import (
	"fmt"
	"math"
	"reflect"
	"slices"
	"strings"
	"testing"
	"unsafe"

	"courier/api"
	"courier/schema"
	"courier/value"
)

// declared has a field of each Kind, by the Kind's number, and a repeated one of
// each, by that and 20. All is the message 0, Part 1 and Empty 2; Near is the enum 0,
// Far 1.
const declared = `
message All {
	int64 i = 1; uint64 u = 2; sint64 z = 3; bool b = 4; string t = 5;
	bytes y = 6; fixed32 f = 7; fixed64 g = 8; Far e = 9; Part p = 10;
	repeated int64 ri = 21; repeated uint64 ru = 22; repeated sint64 rz = 23; repeated bool rb = 24; repeated string rt = 25;
	repeated bytes ry = 26; repeated fixed32 rf = 27; repeated fixed64 rg = 28; repeated Far re = 29; repeated Part rp = 30;
}
message Part { sint64 n = 1; repeated All all = 2; Empty none = 3; string t = 4; repeated bool l = 5; Near e = 6; }
message Empty {}
enum Near { zero = 0; one = 1; }
enum Far { nought = 0; true = 2; most = 2147483647; x = 5; λ_9 = 9; }
`

// declaredSchema answers the schema of what is declared.
func declaredSchema() api.Schema { return compiled(declared) }

func compiled(text string) api.Schema {
	s, at, err := schema.Compile(text)
	if err != api.OK {
		panic(fmt.Sprint(at, err))
	}
	return s
}

// all answers a Message of All.
func all(fields ...value.Field) value.Message { return value.Message{Fields: fields} }

// part answers a Message of Part.
func part(fields ...value.Field) value.Message { return value.Message{Type: 1, Fields: fields} }

// with answers m with that Unknown.
func with(m value.Message, unknown string) value.Message {
	m.Unknown = unknown
	return m
}

func field(number int, values ...value.Value) value.Field {
	return value.Field{Number: number, Values: values}
}

// show answers a value for a reader.
func show(v value.Value) string { return fmt.Sprintf("%#v", v) }

// check asks all that the package promises of a value and its text.
func check(t *testing.T, s api.Schema, number int, v value.Value, want string) {
	t.Helper()
	text, err := Print(s, number, v)
	if text != want || err != api.OK {
		t.Errorf("Print(%d, %.400s) = %.400s, %d, want %.400s", number, show(v), text, err, want)
	}
	normal, refused := value.Normal(s, number, v)
	read, err := Parse(s, number, want)
	if refused != api.OK || err != api.OK || !value.Same(read, normal) {
		t.Errorf("Parse(%d, %.400s) = %.400s, %d, want %.400s", number, want, show(read), err, show(normal))
	}
}

// checkUnfit asks what is answered for a value that doesn't fit.
func checkUnfit(t *testing.T, s api.Schema, number int, v value.Value) {
	t.Helper()
	if text, err := Print(s, number, v); text != "" || err != api.ErrArg {
		t.Errorf("Print(%d, %.400s) = %.400s, %d, want ErrArg", number, show(v), text, err)
	}
}

// checkRefused asks what is answered for a text that is no value's.
func checkRefused(t *testing.T, s api.Schema, number int, text string, want api.Errno) {
	t.Helper()
	if v, err := Parse(s, number, text); v != nil || err != want {
		t.Errorf("Parse(%d, %.400s) = %.400s, %d, want %d", number, text, show(v), err, want)
	}
}

// wrong asks that these texts are none of a Message of All.
func wrong(t *testing.T, texts ...string) {
	t.Helper()
	for _, text := range texts {
		checkRefused(t, declaredSchema(), 0, text, api.ErrForm)
	}
}

// The chapter's examples.
func TestExamples(t *testing.T) {
	s := compiled("message A { int64 x = 1; repeated int64 l = 2; B m = 3; string t = 4; } message B { bool b = 1; }")
	v := all(field(1, value.Int(5)), field(2, value.Int(1), value.Int(2)), field(3, part(field(1, value.Bool(true)))), field(4, value.Text(`a"b`)))
	check(t, s, 0, v, `{x: 5, l: [1, 2], m: {b: true}, t: "a\"b"}`)
	checkRefused(t, s, 0, "{ x: 5 }", api.ErrForm)
}

// ofKind are, by Kind, values and the text of each. The first one is that by default,
// but of Messages.
func ofKind(kind int) ([]value.Value, []string) {
	switch kind {
	case api.Int64, api.Sint64:
		return []value.Value{value.Int(0), value.Int(1), value.Int(-1), value.Int(9), value.Int(10), value.Int(-10), value.Int(math.MaxInt64), value.Int(math.MinInt64), value.Int(math.MinInt64 + 1)},
			[]string{"0", "1", "-1", "9", "10", "-10", "9223372036854775807", "-9223372036854775808", "-9223372036854775807"}
	case api.Uint64, api.Fixed64:
		return []value.Value{value.Uint(0), value.Uint(1), value.Uint(300), value.Uint(1 << 32), value.Uint(1 << 63), value.Uint(math.MaxUint64)},
			[]string{"0", "1", "300", "4294967296", "9223372036854775808", "18446744073709551615"}
	case api.Fixed32:
		return []value.Value{value.Uint(0), value.Uint(1), value.Uint(1 << 31), value.Uint(math.MaxUint32)}, []string{"0", "1", "2147483648", "4294967295"}
	case api.Bool:
		return []value.Value{value.Bool(false), value.Bool(true)}, []string{"false", "true"}
	case api.Text:
		return []value.Value{value.Text(""), value.Text("a"), value.Text(`"`), value.Text(`\`), value.Text("\n"), value.Text("\x00\x01\x1f \x7f\u0080"), value.Text(`\n\"\u0041`), value.Text("'é€😀\ufffd\u2028\U0010ffff/"), value.Text(`}, ]: {x: x"00"`)},
			[]string{`""`, `"a"`, `"\""`, `"\\"`, `"\n"`, `"\u0000\u0001\u001f \u007f` + "\u0080\"", `"\\n\\\"\\u0041"`, `"'é€😀` + "\ufffd\u2028\U0010ffff/\"", `"}, ]: {x: x\"00\""`}
	case api.Bytes:
		return []value.Value{value.Bytes(""), value.Bytes("a"), value.Bytes("\x00\xff"), value.Bytes(`"\` + "\n"), value.Bytes("\x09\x90\xaf\xfa")}, []string{`x""`, `x"61"`, `x"00ff"`, `x"225c0a"`, `x"0990affa"`}
	case api.Enum:
		return []value.Value{value.Enum(0), value.Enum(2), value.Enum(5), value.Enum(9), value.Enum(math.MaxInt32), value.Enum(1), value.Enum(-1), value.Enum(math.MaxInt32 - 1), value.Enum(math.MinInt32), value.Enum(-2), value.Enum(10)},
			[]string{"nought", "true", "x", "λ_9", "most", "1", "-1", "2147483646", "-2147483648", "-2", "10"}
	}
	return []value.Value{part(), part(field(1, value.Int(-5))), part(field(4, value.Text("a, b}"))), part(field(2, all(), all())), with(part(), "\x38\x01"), part(field(6, value.Enum(1))), part(field(6, value.Enum(2)))},
		[]string{"{}", "{n: -5}", `{t: "a, b}"}`, "{all: [{}, {}]}", `{?: x"3801"}`, "{e: one}", "{e: 2}"}
}

// names are the names of All's fields, by Kind.
var names = []string{"", "i", "u", "z", "b", "t", "y", "f", "g", "e", "p"}

// P12.1 and P12.2: a value of each Kind, in a field that is repeated and in one that
// isn't.
func TestKinds(t *testing.T) {
	s := declaredSchema()
	for kind := api.Int64; kind <= api.Message; kind++ {
		values, texts := ofKind(kind)
		name, many := names[kind], "r"+names[kind]
		for i, v := range values {
			if i > 0 || kind == api.Message {
				check(t, s, 0, all(field(kind, v)), "{"+name+": "+texts[i]+"}")
				check(t, s, 0, all(field(kind, v), field(20+kind, v)), "{"+name+": "+texts[i]+", "+many+": ["+texts[i]+"]}")
			} else {
				check(t, s, 0, all(field(kind, v)), "{}")
				wrong(t, "{"+name+": "+texts[i]+"}")
			}
			check(t, s, 0, all(field(20+kind, v)), "{"+many+": ["+texts[i]+"]}")
			check(t, s, 0, all(field(20+kind, v, v)), "{"+many+": ["+texts[i]+", "+texts[i]+"]}")
			check(t, s, 1, part(field(2, all(), all(field(20+kind, v)))), "{all: [{}, {"+many+": ["+texts[i]+"]}]}")
			// Each sort of brackets belongs to its sort of fields.
			wrong(t, "{"+name+": ["+texts[i]+"]}", "{"+many+": "+texts[i]+"}", "{"+name+": "+texts[i]+", "+texts[i]+"}")
		}
		check(t, s, 0, all(field(20+kind, values...)), "{"+many+": ["+strings.Join(texts, ", ")+"]}")
	}
}

// P12.1: Messages with several fields, in others, and Unknown behind all of them.
func TestMessages(t *testing.T) {
	s := declaredSchema()
	check(t, s, 0, all(), "{}")
	check(t, s, 2, value.Message{Type: 2}, "{}")
	check(t, s, 0, all(field(1, value.Int(1)), field(5, value.Text("a")), field(9, value.Enum(2)), field(10, part()), field(21, value.Int(0))), `{i: 1, t: "a", e: true, p: {}, ri: [0]}`)
	check(t, s, 1, part(field(1, value.Int(2)), field(3, value.Message{Type: 2})), "{n: 2, none: {}}")
	check(t, s, 0, all(field(10, part(field(2, all(field(10, part(field(3, value.Message{Type: 2})))), all())))), "{p: {all: [{p: {none: {}}}, {}]}}")
	check(t, s, 0, with(all(), "\x58\x01"), `{?: x"5801"}`)
	check(t, s, 2, value.Message{Type: 2, Unknown: "\x08\x01\x0a\x00"}, `{?: x"08010a00"}`)
	check(t, s, 0, with(all(field(1, value.Int(1))), "\x0a\x02\xab\xcd"), `{i: 1, ?: x"0a02abcd"}`)
	check(t, s, 0, with(all(field(10, with(part(), "\x38\x00")), field(30, with(part(field(1, value.Int(1))), "\x38\x01"), part())), "\x58\x01"), `{p: {?: x"3800"}, rp: [{n: 1, ?: x"3801"}, {}], ?: x"5801"}`)
	// Two enums have names of their own.
	check(t, s, 0, all(field(9, value.Enum(1)), field(10, part(field(6, value.Enum(1))))), "{e: 1, p: {e: one}}")
	wrong(t, "{e: one}", "{p: {e: true}}", "{p: {e: 1}}")
}

// P12.1: the text of what isn't normal is that of its normal value.
func TestNotNormal(t *testing.T) {
	s := declaredSchema()
	var zeros []value.Field
	for kind := api.Int64; kind <= api.Enum; kind++ {
		values, _ := ofKind(kind)
		zeros = append(zeros, field(kind, values[0]))
	}
	check(t, s, 0, all(zeros...), "{}")
	check(t, s, 0, with(all(zeros...), "\x58\x01"), `{?: x"5801"}`)
	check(t, s, 0, all(append(zeros, field(10, part(field(1, value.Int(0)))))...), "{p: {}}")
	check(t, s, 0, all(append(slices.Clone(zeros), field(30, part(field(2, all(zeros...), all(zeros[0], field(2, value.Uint(1))))), part(field(4, value.Text("")))))...), "{rp: [{all: [{}, {u: 1}]}, {}]}")
	check(t, s, 0, all(zeros[0], field(2, value.Uint(7)), zeros[2], field(24, value.Bool(false))), "{u: 7, rb: [false]}")
}

// nested answers the Message of that many, All and Part by turns, and its text.
func nested(count, number int, name, innermost string) (value.Message, string) {
	m, text := value.Message{Type: (count + 1) % 2, Unknown: innermost}, "{}"
	if innermost != "" {
		text = fmt.Sprintf(`{?: x"%x"}`, innermost)
	}
	for n := count - 1; n >= 1; n-- {
		switch {
		case n%2 == 0:
			m, text = part(field(2, m)), "{all: ["+text+"]}"
		case number == 10:
			m, text = all(field(10, m)), "{"+name+": "+text+"}"
		default:
			m, text = all(field(30, m, part())), "{"+name+": ["+text+", {}]}"
		}
	}
	return m, text
}

// P12.1: Messages lie at most MaxDepth deep.
func TestDepth(t *testing.T) {
	s := declaredSchema()
	for number, name := range map[int]string{10: "p", 30: "rp"} {
		for _, innermost := range []string{"", "\x58\x01"} {
			for count := 1; count <= api.MaxDepth; count++ {
				v, text := nested(count, number, name, innermost)
				check(t, s, 0, v, text)
			}
			for _, count := range []int{api.MaxDepth + 1, api.MaxDepth + 2, 100, 2000} {
				v, text := nested(count, number, name, innermost)
				checkUnfit(t, s, 0, v)
				checkRefused(t, s, 0, text, api.ErrForm)
			}
		}
	}
	v, text := nested(15, 10, "p", "")
	check(t, s, 1, part(field(2, v)), "{all: ["+text+"]}")
	v, text = nested(16, 10, "p", "")
	checkUnfit(t, s, 1, part(field(2, v)))
	checkRefused(t, s, 1, "{all: ["+text+"]}", api.ErrForm)
	_, text = nested(16, 10, "p", "")
	wrong(t, strings.Replace(text, "{}", "{none: {}}", 1))
}

// R1 and P4: texts without an end of brackets.
func TestDeepTexts(t *testing.T) {
	for _, text := range []string{"{", "[", "{p: ", "{rp: [", "{p: {all: [", "{rp: [{all: [", "}", "{}", "\"", "\\"} {
		wrong(t, strings.Repeat(text, 200000))
	}
	// A stack as deep as this text would be too deep.
	wrong(t, strings.Repeat("{p: {all: [", 3000000))
}

// elsewhere and hidden are types from elsewhere that have a Kind, too.
type (
	elsewhere int
	hidden    struct{ value.Message }
)

func (elsewhere) Kind() int { return 7 }

// P12.1: a value that doesn't fit.
func TestUnfit(t *testing.T) {
	s := declaredSchema()
	n, m := value.Int(1), value.Message{}
	misfits := []value.Value{nil, elsewhere(0), hidden{}, &n, &m, (*value.Int)(nil), (*value.Message)(nil), (*hidden)(nil)}
	for _, v := range append(misfits, value.Int(0), value.Uint(1), value.Bool(true), value.Text("a"), value.Bytes(""), value.Enum(0)) {
		for number := range s.Messages {
			checkUnfit(t, s, number, v)
		}
	}
	for kind := api.Int64; kind <= api.Message; kind++ {
		values, _ := ofKind(kind)
		for _, v := range misfits {
			checkUnfit(t, s, 0, all(field(kind, v)))
			checkUnfit(t, s, 0, all(field(20+kind, values[1], v)))
		}
		checkUnfit(t, s, 0, all(field(kind)))
		checkUnfit(t, s, 0, all(field(20+kind)))
		checkUnfit(t, s, 0, all(field(kind, values[1], values[1])))
		for other := api.Int64; other <= api.Message; other++ {
			strange, _ := ofKind(other)
			if strange[1].Kind() != values[1].Kind() {
				checkUnfit(t, s, 0, all(field(kind, strange[1])))
				checkUnfit(t, s, 0, all(field(20+kind, values[1], strange[0])))
			}
		}
	}
	one, two := field(1, value.Int(1)), field(2, value.Uint(1))
	for _, v := range []value.Message{
		{Type: 1}, {Type: -1}, {Type: 4}, all(two, one), all(one, one), all(field(0, value.Int(1))), all(field(11, value.Int(1))), all(field(-1, value.Int(1))),
		all(field(5, value.Text("\xff"))), all(field(25, value.Text("a"), value.Text("\xed\xa0\x80"))), all(field(7, value.Uint(1<<32))), all(field(27, value.Uint(1), value.Uint(math.MaxUint64))),
		{Unknown: "\x08\x01"}, {Unknown: "\xaa\x01\x00"}, {Unknown: "\x78\x02\xa8\x01\x00"}, {Unknown: "x"}, {Unknown: "\x78"}, all(field(10, all())), all(field(10, part(two))), all(field(10, with(part(), "\x22\x00"))),
	} {
		checkUnfit(t, s, 0, v)
	}
	// A Message that lies in itself has no end, yet the call has.
	round := part(field(2, nil, nil))
	inner := all(field(10, round))
	round.Fields[0].Values[0], round.Fields[0].Values[1] = inner, inner
	checkUnfit(t, s, 1, round)
	checkUnfit(t, s, 0, inner)
}

// P12.1: a schema that isn't formed, and a message that isn't there, ahead of all
// that is wrong in a text.
func TestNoSuchMessage(t *testing.T) {
	refused := func(s api.Schema, number int) {
		t.Helper()
		for _, text := range []string{"{}", "{x: 1}", "", "}", "\xff"} {
			checkRefused(t, s, number, text, api.ErrArg)
		}
		for _, v := range []value.Value{nil, value.Message{Type: number}, value.Message{}, all(field(1, value.Int(1))), value.Int(1)} {
			checkUnfit(t, s, number, v)
		}
	}
	for _, number := range []int{-1, 3, 64, math.MaxInt, math.MinInt} {
		refused(declaredSchema(), number)
		refused(api.Schema{}, number)
	}
	refused(api.Schema{}, 0)
	fields := func(list ...api.FieldDef) api.Schema {
		return api.Schema{Messages: []api.MessageDef{{Name: "A", Fields: list}}}
	}
	x := api.FieldDef{Number: 1, Name: "x", Kind: api.Int64}
	y := api.FieldDef{Number: 2, Name: "y", Kind: api.Int64}
	check(t, fields(x, y), 0, all(field(1, value.Int(1)), field(2, value.Int(2))), "{x: 1, y: 2}")
	for _, s := range []api.Schema{
		fields(y, x), fields(x, x), fields(x, api.FieldDef{Number: 2, Name: "x", Kind: api.Int64}), fields(x, api.FieldDef{Number: 2, Name: "y"}), fields(x, api.FieldDef{Number: 2, Name: "y", Kind: 11}),
		fields(x, api.FieldDef{Number: 2, Name: "y", Kind: api.Enum}), fields(x, api.FieldDef{Number: 2, Name: "y", Kind: api.Message}), fields(x, api.FieldDef{Number: 2, Name: "y", Kind: api.Message, Type: 1, Repeated: true}),
		fields(x, api.FieldDef{Number: 19000, Name: "y", Kind: api.Int64}), fields(x, api.FieldDef{Number: api.MaxField + 1, Name: "y", Kind: api.Int64}), fields(api.FieldDef{Number: 1, Name: "x", Kind: api.Int64, Type: 1}), fields(api.FieldDef{Number: 1, Name: "1", Kind: api.Int64}),
		{Messages: []api.MessageDef{{Name: "A", Fields: []api.FieldDef{x}}, {Name: "A"}}}, {Messages: []api.MessageDef{{Fields: []api.FieldDef{x}}}},
		{Messages: []api.MessageDef{{Name: "A", Fields: []api.FieldDef{x}}}, Enums: []api.EnumDef{{Name: "E"}}}, {Messages: []api.MessageDef{{Name: "A", Fields: []api.FieldDef{x}}}, Methods: []api.MethodDef{{ID: 2, Service: "S", Name: "m"}}},
	} {
		refused(s, 0)
	}
}

// P12.1: brackets, commas and blanks, one more or one fewer, and what stands behind
// the last }.
func TestWrongSigns(t *testing.T) {
	wrong(t, "", "{", "}", "{}}", "{}{}", "{} ", " {}", "{ }", "\ufeff{}", "{}\n", "{}\x00", "[]", "x", "null", "{,}", "{, }", "()", "{{}}")
	right := `{i: 1, t: "a", p: {n: 2}, ri: [3, 4], rp: [{}, {l: [true, false]}], ?: x"5801"}`
	if v, err := Parse(declaredSchema(), 0, right); err != api.OK || v == nil {
		t.Error(v, err)
	}
	for i := range len(right) {
		wrong(t, right[:i])
		if strings.ContainsRune("{}[]:, \"?", rune(right[i])) {
			wrong(t, right[:i]+right[i+1:], right[:i]+right[i:i+1]+right[i:])
		}
	}
	wrong(t, right+" ", right+right, right+"}", right+",")
	for at := 0; at <= len(right); at++ {
		before := strings.Count(right[:at], `"`)
		// In the text "a" alone may stand more.
		if before%2 == 0 || before == 3 {
			wrong(t, right[:at]+" "+right[at:], right[:at]+"\t"+right[at:], right[:at]+"\n"+right[at:], right[:at]+"_"+right[at:])
		}
	}
	wrong(t, "{i:1}", "{i : 1}", "{i:  1}", "{i: 1,u: 2}", "{i: 1 , u: 2}", "{i: 1,  u: 2}", "{i: 1 u: 2}", "{i: 1; u: 2}", "{i: 1, }", "{i: 1,}", "{, i: 1}", "{i 1}", "{i= 1}", "{i}", "{i:}", "{i: }", "{: 1}", "{\"i\": 1}", "{I: 1}", "{ii: 1}", "{1: 1}", "{no: 1}")
	wrong(t, "{ri: []}", "{ri: [ ]}", "{ri: [1,2]}", "{ri: [1 , 2]}", "{ri: [1, ]}", "{ri: [, 1]}", "{ri: [1]", "{ri: [1}", "{ri: 1]}", "{ri: [1, 2}", "{ri: [[1]]}", "{ri: (1)}", "{ri: [1 2]}", "{ri: [1]]}", "{rp: []}", "{rp: [{}, ]}", "{rp: [{},{}]}", "{rt: []}")
	wrong(t, "{p: }", "{p: {}", "{p: {}}}", "{p: {n: 1}", "{p: n: 1}", "{p: {i: 1}}", "{p: 1}", `{p: ""}`, "{n: 1}")
}

// P12.1: fields in another order, or twice.
func TestWrongOrder(t *testing.T) {
	wrong(t, "{u: 2, i: 1}", "{i: 1, i: 1}", "{i: 1, i: 2}", "{ri: [1], i: 1}", "{ri: [1], ri: [2]}", "{i: 1, u: 2, z: 3, u: 2}", "{p: {}, p: {}}", "{p: {t: \"a\", n: 1}}", "{rp: [{}, {n: 1, n: 1}]}")
	wrong(t, `{?: x"5801", i: 1}`, `{?: x"5801", ?: x"5801"}`, `{?: x"5801", }`, `{, ?: x"5801"}`, `{i: 1,?: x"5801"}`, `{i: 1?: x"5801"}`, `{i: 1, ?:x"5801"}`, `{i: 1, ? : x"5801"}`)
	// By numbers, not by names or places.
	s := compiled("message A { int64 b = 3; int64 a = 7; int64 c = 1; }")
	check(t, s, 0, all(field(1, value.Int(1)), field(3, value.Int(3)), field(7, value.Int(7))), "{c: 1, b: 3, a: 7}")
	for _, text := range []string{"{a: 7, b: 3, c: 1}", "{b: 3, a: 7, c: 1}", "{c: 1, a: 7, b: 3}", "{b: 3, c: 1}"} {
		checkRefused(t, s, 0, text, api.ErrForm)
	}
}

// P12.1: numbers that aren't written as they must be, or lie beyond their Kind.
func TestWrongNumbers(t *testing.T) {
	both := func(name string, texts ...string) {
		t.Helper()
		for _, text := range texts {
			wrong(t, "{"+name+": "+text+"}", "{r"+name+": ["+text+"]}", "{r"+name+": [1, "+text+"]}")
		}
	}
	for _, name := range []string{"i", "u", "z", "f", "g", "e"} {
		both(name, "", " ", "-", "+", "+1", "+0", "-0", "00", "01", "-01", "007", "1_0", "0x1", "1e1", "1.0", "1.", ".5", "--1", "1-", " 1", "1 ", "1a", "a", "١", "１", "true1", "true ", `"1"`, `x"01"`, "{}", "[1]", "nan", "99999999999999999999", "-99999999999999999999", strings.Repeat("0", 5000)+"1", strings.Repeat("9", 5000))
	}
	for _, name := range []string{"i", "z"} {
		both(name, "9223372036854775808", "-9223372036854775809", "18446744073709551615", "true")
	}
	for _, name := range []string{"u", "g", "f"} {
		both(name, "-1", "18446744073709551616", "-9223372036854775808", "-18446744073709551615", "true")
	}
	both("f", "4294967296", "4294967297", "18446744073709551615")
	both("e", "0", "2", "5", "9", "2147483647", "2147483648", "-2147483649", "4294967295", "4294967296", "False", "Nought", "nough", "noughts", "one", "zero", "Far", "Far.x", "X", "_")
	both("b", "True", "TRUE", "False", "t", "f", "yes", "truee", "tru", "fals", "falsee", `"true"`, "")
	for _, text := range []string{"0", "1", "", "-1", "nought"} {
		wrong(t, "{b: "+text+"}", "{rb: ["+text+"]}")
	}
	// What is by default isn't written where it isn't repeated, and it is where it is.
	wrong(t, "{i: 0}", "{u: 0}", "{z: 0}", "{b: false}", `{t: ""}`, `{y: x""}`, "{f: 0}", "{g: 0}", "{e: nought}", "{e: 0}", "{i: 1, u: 0}", "{p: {n: 0}}", "{rp: [{n: 0}]}", "{rp: [{}, {none: {}, l: [false], e: zero}]}")
}

// P12.1: texts and bytes that aren't written as they must be.
func TestWrongQuotes(t *testing.T) {
	for _, text := range []string{
		``, `"`, `a`, `'a'`, `"a`, `a"`, `"a"b`, `"a""b"`, `"a"b"`, "`a`", `x"61"`, `"a" `, `1`, `{}`,
		`"\"`, `"\`, `"a\`, `"\\\"`, `"\a"`, `"\t"`, `"\r"`, `"\0"`, `"\x41"`, `"\N"`, `"\'"`, `"\/"`, `"\U0001"`, "\"\\\n\"", "\"\\\x00\"", `"\é"`,
		// A rune that isn't to be written by \u, one that is written otherwise, and one that is cut off.
		`"\u0041"`, `"\u0020"`, `"\u0022"`, `"\u005c"`, `"\u007e"`, `"\u0080"`, `"\u00ff"`, `"\u0100"`, `"\u2028"`, `"\ud800"`, `"\ud83d\ude00"`, `"\uffff"`, `"\u000a"`,
		`"\u001F"`, `"\u007F"`, `"\u000A"`, `"\U001f"`, `"\u"`, `"\u1"`, `"\u01"`, `"\u001"`, `"\u1f"`, `"\u01f"`, `"\u001`, `"\u001f`, `"\u+001"`, `"\u 001"`, `"\u-001"`, `"\u0x01"`, `"\u0_01"`, `"\u00g1"`, `"\u{1}"`, `"\u00001"`[:8],
		// A rune that is to be written otherwise.
		"\"\n\"", "\"\r\"", "\"\t\"", "\"\x00\"", "\"\x1f\"", "\"\x7f\"", "\"a\x01\"",
		// What isn't valid.
		"\"\xff\"", "\"\xce\"", "\"\xce\\u0001\"", "\"\xed\xa0\x80\"", "\"\xf4\x90\x80\x80\"", "\"\xc0\x80\"",
	} {
		wrong(t, "{t: "+text+"}", "{rt: ["+text+"]}", `{rt: ["a", `+text+"]}", "{p: {t: "+text+"}}")
	}
	right := `{t: "\u00001\"\\\n"}`
	check(t, declaredSchema(), 0, all(field(5, value.Text("\x001\"\\\n"))), right)
	for i := range right {
		wrong(t, right[:i])
	}
	for _, text := range []string{
		``, `x`, `"`, `x"`, `x"61`, `61"`, `"61"`, `61`, `X"61"`, `x'61'`, `x "61"`, `x"61""`, `x"61"61"`, `x"6"`, `x"616"`, `x"6g"`, `x"0x"`, `x"+1"`, `x"-1"`, `x"_1"`, `x" 61"`, `x"61 62"`, `x"6 1"`, `x"AB"`, `x"aB"`, `x"Ab"`, `x"F0"`, `x"\61"`, `x"\n"`, `x"\u0001"`, `x"é"`, "x\"\xff\xff\"", `xx"61"`, `0x61`, `{}`, `1`,
	} {
		wrong(t, "{y: "+text+"}", "{ry: ["+text+"]}", `{ry: [x"00", `+text+"]}", "{i: 1, ?: "+text+"}", "{?: "+text+"}", "{p: {?: "+text+"}}")
	}
}

// P12.1: an Unknown that holds a known field, or no fields, or isn't there.
func TestWrongUnknown(t *testing.T) {
	wrong(t, `{?: x""}`, `{i: 1, ?: x""}`, `{?: x"0801"}`, `{?: x"58010801"}`, `{?: x"08015801"}`, `{?: x"aa0100"}`, `{?: x"a80100"}`, `{?: x"58"}`, `{?: x"580158"}`, `{?: x"00"}`, `{?: x"0001"}`, `{?: x"5b"}`, `{?: x"5a0261"}`, `{?: 1}`, `{?: "5801"}`, `{?: }`, `{?}`, `{?:}`, `{?: {}}`, `{??: x"5801"}`, `{?: [x"5801"]}`)
	wrong(t, `{p: {?: x"0801"}}`, `{p: {?: x""}}`, `{rp: [{?: x"2200"}]}`, `{rp: [{}, {?: x"1200"}]}`, `{p: {all: [{?: x"0801"}]}}`)
	check(t, declaredSchema(), 1, with(part(), "\x50\x01"), `{?: x"5001"}`)
	checkRefused(t, declaredSchema(), 1, `{?: x"0801"}`, api.ErrForm)
	check(t, declaredSchema(), 2, value.Message{Type: 2, Unknown: "\x08\x01"}, `{?: x"0801"}`)
	checkRefused(t, declaredSchema(), 2, `{i: 1}`, api.ErrForm)
}

// P12.1: Quote of all runes, and of what isn't valid.
func TestQuote(t *testing.T) {
	values, texts := ofKind(api.Text)
	for i, v := range values {
		if got := Quote(string(v.(value.Text))); got != texts[i] {
			t.Errorf("Quote(%q) = %s, want %s", v, got, texts[i])
		}
	}
	for r := rune(0); r <= 0x10ffff; r++ {
		if r >= 0xd800 && r < 0xe000 {
			continue
		}
		inner := string(r)
		switch {
		case r == '"' || r == '\\':
			inner = `\` + string(r)
		case r == '\n':
			inner = `\n`
		case r < 0x20 || r == 0x7f:
			inner = fmt.Sprintf(`\u%04x`, r)
		}
		if got := Quote("a" + string(r) + "b"); got != `"a`+inner+`b"` {
			t.Errorf("Quote of U+%04x: %s", r, got)
		}
	}
	for _, s := range []string{"\xff", "\x80", "a\xc3", "\xc3a", "\xc0\x80", "\xe2\x82", "\xed\xa0\x80", "\xed\xbf\xbf", "\xf0\x80\x80\x80", "\xf4\x90\x80\x80", "\"\xff\"", strings.Repeat("a", 1000) + "\xfe"} {
		if got := Quote(s); got != "" {
			t.Errorf("Quote(%q) = %s", s, got)
		}
	}
	long := strings.Repeat("a\"\n", 100000)
	if Quote(long) != `"`+strings.Repeat(`a\"\n`, 100000)+`"` {
		t.Error("a long text")
	}
}

// overlap answers whether two texts lie in one memory.
func overlap(a, b string) bool {
	x, y := uintptr(unsafe.Pointer(unsafe.StringData(a))), uintptr(unsafe.Pointer(unsafe.StringData(b)))
	return x < y+uintptr(len(b)) && y < x+uintptr(len(a))
}

// pieces answers the texts in v, and asks that no two of its lists share memory.
func pieces(t *testing.T, v value.Value, lists map[unsafe.Pointer]int) []string {
	t.Helper()
	switch v := v.(type) {
	case value.Text:
		return []string{string(v)}
	case value.Bytes:
		return []string{string(v)}
	case value.Message:
		out := []string{v.Unknown}
		lists[unsafe.Pointer(unsafe.SliceData(v.Fields))]++
		for _, f := range v.Fields {
			lists[unsafe.Pointer(unsafe.SliceData(f.Values))]++
			for _, one := range f.Values {
				out = append(out, pieces(t, one, lists)...)
			}
		}
		return out
	}
	return nil
}

// R2 and R3: answers hang on the arguments alone, which are left as they are, spare
// room too, and are new memory.
func TestMemory(t *testing.T) {
	s := declaredSchema()
	made := func() value.Message {
		inner := with(part(append(make([]value.Field, 0, 9), field(1, value.Int(0)), field(4, value.Text(strings.Repeat("in", 3))))...), strings.Repeat("\x38\x01", 2))
		return with(all(append(make([]value.Field, 0, 9), field(1, value.Int(0)), field(5, value.Text(strings.Repeat("t", 9))), field(6, value.Bytes(strings.Repeat("b", 9))),
			field(21, append(make([]value.Value, 0, 9), value.Int(0), value.Int(5))...), field(30, append(make([]value.Value, 0, 9), inner, inner)...))...), strings.Repeat("\x58\x01", 3))
	}
	v := made()
	text, err := Print(s, 0, v)
	const want = `{t: "ttttttttt", y: x"626262626262626262", ri: [0, 5], rp: [{t: "ininin", ?: x"38013801"}, {t: "ininin", ?: x"38013801"}], ?: x"580158015801"}`
	if err != api.OK || text != want {
		t.Fatal(text, err)
	}
	if !reflect.DeepEqual(v, made()) || !reflect.DeepEqual(s, declaredSchema()) {
		t.Error("an argument was changed")
	}
	for _, f := range v.Fields[len(v.Fields):cap(v.Fields)] {
		if f.Number != 0 || f.Values != nil {
			t.Error("spare room was changed")
		}
	}
	read, err := Parse(s, 0, text)
	lists := map[unsafe.Pointer]int{}
	parts := pieces(t, read, lists)
	for i, one := range parts {
		for _, other := range append(parts[:i:i], text) {
			if overlap(one, other) {
				t.Errorf("%q shares memory", one)
			}
		}
	}
	for p, count := range lists {
		if p != nil && count > 1 {
			t.Error("lists share memory")
		}
	}
	// A second answer has nothing of the first one.
	m := read.(value.Message)
	clear(m.Fields[:cap(m.Fields)])
	again, refused := Parse(s, 0, text)
	normal, _ := value.Normal(s, 0, v)
	if err != api.OK || refused != api.OK || !value.Same(again, normal) {
		t.Error(again, err, refused)
	}
	second, _ := Print(s, 0, v)
	quoted, plain := Quote(parts[1]), strings.Repeat("t", 9)
	if second != want || overlap(text, second) || overlap(quoted, parts[1]) || overlap(Quote(plain), quoted) {
		t.Error("memory is shared")
	}
}

// R4: lists of no elements are nil or empty.
func TestNoElements(t *testing.T) {
	empty := api.Schema{Messages: []api.MessageDef{{Name: "A", Fields: []api.FieldDef{}}}, Enums: []api.EnumDef{}, Methods: []api.MethodDef{}}
	for _, v := range []value.Value{value.Message{}, all([]value.Field{}...), value.Message{Fields: []value.Field{}}} {
		check(t, declaredSchema(), 0, v, "{}")
		check(t, empty, 0, v, "{}")
	}
	checkRefused(t, api.Schema{Messages: []api.MessageDef{}}, 0, "{}", api.ErrArg)
}

// P12.2 and R1: long texts are written and read in a time that grows as they do.
func TestLong(t *testing.T) {
	s := declaredSchema()
	numbers, texts := slices.Repeat([]value.Value{value.Int(-7)}, 200000), slices.Repeat([]value.Value{value.Text("\"")}, 200000)
	v := with(all(field(5, value.Text(strings.Repeat("\n", 500000))), field(6, value.Bytes(strings.Repeat("\xab", 500000))), field(21, numbers...), field(25, texts...)), strings.Repeat("\x58\x01", 200000))
	list := func(one string) string { return "[" + strings.Repeat(one+", ", 199999) + one + "]" }
	check(t, s, 0, v, `{t: "`+strings.Repeat(`\n`, 500000)+`", y: x"`+strings.Repeat("ab", 500000)+`", ri: `+list("-7")+", rt: "+list(`"\""`)+`, ?: x"`+strings.Repeat("5801", 200000)+`"}`)
	parts := slices.Repeat([]value.Value{part(field(1, value.Int(1)))}, 200000)
	check(t, s, 0, all(field(30, parts...)), "{rp: "+list("{n: 1}")+"}")
	wrong(t, "{"+strings.Repeat("i: 1, ", 200000)+"i: 1}", "{i: "+strings.Repeat("1", 1<<20), "{"+strings.Repeat("i", 1<<20), "{t: \""+strings.Repeat("\\\"", 1<<20))
}
