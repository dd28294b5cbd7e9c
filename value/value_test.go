package value

import (
	"fmt"
	"math"
	"reflect"
	"slices"
	"strings"
	"testing"
	"unsafe"

	"courier/api"
	"courier/schema"
	"courier/wire"
)

// sample has a field of each Kind, by the Kind's number, and a repeated one of each,
// by that and 20. A is the message 0, B 1 and C 2.
const sample = `
message A {
	int64 a1 = 1; uint64 a2 = 2; sint64 a3 = 3; bool a4 = 4; string a5 = 5;
	bytes a6 = 6; fixed32 a7 = 7; fixed64 a8 = 8; E a9 = 9; B a10 = 10;
	repeated int64 r1 = 21; repeated uint64 r2 = 22; repeated sint64 r3 = 23; repeated bool r4 = 24; repeated string r5 = 25;
	repeated bytes r6 = 26; repeated fixed32 r7 = 27; repeated fixed64 r8 = 28; repeated E r9 = 29; repeated B r10 = 30;
}
message B { int64 x = 1; repeated A a = 2; C c = 3; }
message C {}
enum E { z = 0; y = 1; }
`

const repeated = 20

// sampleSchema answers the sample's schema.
func sampleSchema() api.Schema {
	s, at, err := schema.Compile(sample)
	if err != api.OK {
		panic(fmt.Sprint(at, err))
	}
	return s
}

// Types from elsewhere that have a Kind, too.
type (
	foreign  int
	lying    struct{ Message }
	listed   []int
	breaking struct{}
)

func (foreign) Kind() int   { return 1 }
func (listed) Kind() int    { return 7 }
func (*breaking) Kind() int { panic("nobody needs to ask this") }

// others are what no value is.
func others() []Value {
	n, text, m := Int(1), Text("a"), Message{}
	return []Value{nil, foreign(1), lying{}, listed{1}, listed(nil), &breaking{}, (*breaking)(nil), &n, &text, &m, (*Int)(nil), (*Message)(nil)}
}

// of answers a Message of A.
func of(fields ...Field) Message { return Message{Fields: fields} }

// ofB answers a Message of B.
func ofB(fields ...Field) Message { return Message{Type: 1, Fields: fields} }

func field(number int, values ...Value) Field { return Field{Number: number, Values: values} }

// checkFits asks whether v fits the message t of s, and what Normal answers then.
func checkFits(t *testing.T, s api.Schema, number int, v Value, want bool) {
	t.Helper()
	if got := Fits(s, number, v); got != want {
		t.Errorf("Fits(%d, %#v) = %v", number, v, got)
	}
	normal, err := Normal(s, number, v)
	if !want {
		if normal != nil || err != api.ErrArg {
			t.Errorf("Normal(%d, %#v) = %#v, %d, want nil, ErrArg", number, v, normal, err)
		}
		return
	}
	if err != api.OK {
		t.Errorf("Normal(%d, %#v): %d", number, v, err)
	}
	checkThird(t, s, number, normal)
}

// checkThird asks P9.3 of a normal value.
func checkThird(t *testing.T, s api.Schema, number int, normal Value) {
	t.Helper()
	again, err := Normal(s, number, normal)
	if err != api.OK || !Fits(s, number, normal) || !Same(again, normal) || show(again) != show(normal) {
		t.Errorf("the normal value %s is told to be %s, %d", show(normal), show(again), err)
	}
}

// P9.1: Kind.
func TestKind(t *testing.T) {
	for i, v := range []Value{Int(0), Uint(0), Bool(false), Text(""), Bytes(""), Enum(0), Message{}} {
		if v.Kind() != i+1 {
			t.Errorf("%T: %d", v, v.Kind())
		}
	}
	for i, v := range []Value{Int(-5), Uint(1 << 63), Bool(true), Text("\xff"), Bytes("ab"), Enum(-1), ofB(field(9, nil))} {
		if v.Kind() != i+1 {
			t.Errorf("%#v: %d", v, v.Kind())
		}
	}
}

// The chapter's example.
func TestExample(t *testing.T) {
	s, _, _ := schema.Compile("message A { int64 x = 1; }")
	v := Message{Type: 0, Fields: []Field{{Number: 1, Values: []Value{Int(0)}}}}
	checkFits(t, s, 0, v, true)
	if n, err := Normal(s, 0, v); err != api.OK || len(Must(n).Fields) != 0 || !Same(n, Message{}) {
		t.Error(n, err)
	}
}

// P9.1: each kind of value in fields of each Kind, repeated or not.
func TestFitsKinds(t *testing.T) {
	s := sampleSchema()
	// By Kind: the value that fits, of Kind() as the list has it.
	wanted := []int{api.Int64: 1, api.Uint64: 2, api.Sint64: 1, api.Bool: 3, api.Text: 4, api.Bytes: 5, api.Fixed32: 2, api.Fixed64: 2, api.Enum: 6, api.Message: 7}
	values := [][]Value{
		1: {Int(0), Int(1), Int(-1), Int(math.MaxInt64), Int(math.MinInt64)},
		2: {Uint(0), Uint(1), Uint(math.MaxUint32)},
		3: {Bool(false), Bool(true)},
		4: {Text(""), Text("abc"), Text("λ€😀\x00\ufffd")},
		5: {Bytes(""), Bytes("abc"), Bytes("\xff\xfe"), Bytes("\xed\xa0\x80")},
		6: {Enum(0), Enum(1), Enum(2), Enum(-1), Enum(math.MaxInt32), Enum(math.MinInt32)},
		7: {ofB(), ofB(field(1, Int(5))), Message{Type: 1, Unknown: "\x20\x01"}},
	}
	for kind := api.Int64; kind <= api.Message; kind++ {
		for is, list := range values {
			for _, v := range list {
				ok := is == wanted[kind]
				checkFits(t, s, 0, of(field(kind, v)), ok)
				checkFits(t, s, 0, of(field(repeated+kind, v)), ok)
				right := values[wanted[kind]][0]
				checkFits(t, s, 0, of(field(repeated+kind, right, v)), ok)
				checkFits(t, s, 0, of(field(repeated+kind, v, right, right)), ok)
			}
		}
		for _, v := range others() {
			checkFits(t, s, 0, of(field(kind, v)), false)
			checkFits(t, s, 0, of(field(repeated+kind, v)), false)
			checkFits(t, s, 0, of(field(repeated+kind, values[wanted[kind]][0], v)), false)
		}
	}
}

// P9.1: a Uint below 2^32 alone fits Fixed32; any fits the others.
func TestFitsUints(t *testing.T) {
	s := sampleSchema()
	for _, n := range []Uint{0, 1, 1<<31 - 1, 1 << 31, 1<<32 - 2, 1<<32 - 1, 1 << 32, 1<<32 + 1, 1 << 33, 1 << 63, math.MaxUint64} {
		small := n <= math.MaxUint32
		for _, base := range []int{0, repeated} {
			checkFits(t, s, 0, of(field(base+api.Fixed32, n)), small)
			checkFits(t, s, 0, of(field(base+api.Fixed64, n)), true)
			checkFits(t, s, 0, of(field(base+api.Uint64, n)), true)
		}
	}
}

// P9.1: a Text must be valid, a Bytes needn't.
func TestFitsTexts(t *testing.T) {
	s := sampleSchema()
	for text, valid := range map[string]bool{
		"": true, "a": true, "\x00": true, "\x7f": true, "é": true, "λ": true, "€": true, "\ufffd": true, "\ufeff": true, "\uffff": true, "\ud7ff\ue000": true, "\U0001f600": true, "\U0010ffff": true,
		"\xff": false, "\x80": false, "a\xc3": false, "\xc3a": false, "\xc0\x80": false, "\xc1\xbf": false, "\xe0\x80\x80": false, "\xe2\x82": false, "\xed\xa0\x80": false, "\xed\xbf\xbf": false, "\xf0\x80\x80\x80": false, "\xf4\x90\x80\x80": false, "\xf8\x88\x80\x80\x80": false,
		strings.Repeat("a", 1000) + "\xfe": false,
	} {
		for _, base := range []int{0, repeated} {
			checkFits(t, s, 0, of(field(base+api.Text, Text(text))), valid)
			checkFits(t, s, 0, of(field(base+api.Bytes, Bytes(text))), true)
		}
	}
}

// P9.1: a Message's Type is that of the message, or of the field that it lies in.
func TestFitsType(t *testing.T) {
	s := sampleSchema()
	for _, number := range []int{-1, 0, 1, 2, 3, math.MaxInt, math.MinInt} {
		for _, is := range []int{-1, 0, 1, 2, 3, math.MaxInt, math.MinInt} {
			checkFits(t, s, number, Message{Type: is}, number == is && number >= 0 && number < 3)
		}
		checkFits(t, s, 0, of(field(api.Message, Message{Type: number})), number == 1)
		checkFits(t, s, 0, of(field(repeated+api.Message, ofB(), Message{Type: number})), number == 1)
		checkFits(t, s, 1, ofB(field(2, Message{Type: number})), number == 0)
		checkFits(t, s, 1, ofB(field(3, Message{Type: number})), number == 2)
	}
}

// P9.1: Fields rise by Number, and are the message's.
func TestFitsFields(t *testing.T) {
	s := sampleSchema()
	one := func(numbers ...int) Message {
		var m Message
		for _, n := range numbers {
			m.Fields = append(m.Fields, field(n, Int(1)))
		}
		return m
	}
	for _, numbers := range [][]int{{}, {1}, {3}, {1, 3}, {1, 21}, {1, 3, 21, 23}} {
		checkFits(t, s, 0, one(numbers...), true)
	}
	for _, numbers := range [][]int{
		{1, 1}, {21, 21}, {3, 1}, {21, 1}, {1, 21, 3}, {3, 21, 21}, {1, 3, 1}, {23, 21, 3, 1},
		{0}, {-1}, {11}, {20}, {31}, {1, 11}, {11, 21}, {0, 1}, {-1, 1}, {1, api.MaxField}, {1, 1 << 32}, {math.MinInt}, {math.MaxInt},
	} {
		checkFits(t, s, 0, one(numbers...), false)
	}
	// What another message has isn't this one's; one without fields has none.
	checkFits(t, s, 1, ofB(field(1, Int(1)), field(3, Message{Type: 2})), true)
	checkFits(t, s, 1, ofB(field(4, Bool(true))), false)
	checkFits(t, s, 2, Message{Type: 2}, true)
	checkFits(t, s, 2, Message{Type: 2, Fields: []Field{field(1, Int(1))}}, false)
}

// P9.1: one value, or of a repeated field one or more; all fit.
func TestFitsValues(t *testing.T) {
	s := sampleSchema()
	some := []Value{nil, Int(1), Uint(1), Int(1), Bool(true), Text("a"), Bytes("a"), Uint(1), Uint(1), Enum(1), ofB()}
	for kind := api.Int64; kind <= api.Message; kind++ {
		for count := 0; count <= 4; count++ {
			values := slices.Repeat([]Value{some[kind]}, count)
			checkFits(t, s, 0, of(field(kind, values...)), count == 1)
			checkFits(t, s, 0, of(field(repeated+kind, values...)), count >= 1)
		}
		many := slices.Repeat([]Value{some[kind]}, 1000)
		checkFits(t, s, 0, of(field(repeated+kind, many...)), true)
		many[999] = nil
		checkFits(t, s, 0, of(field(repeated+kind, many...)), false)
		checkFits(t, s, 0, Message{Fields: []Field{{Number: kind, Values: nil}}}, false)
		checkFits(t, s, 0, Message{Fields: []Field{{Number: repeated + kind, Values: []Value{}}}}, false)
	}
}

// knownTypes are the types that are known of a field of a Kind: of one that isn't
// repeated, and of one that is.
var knownTypes = map[int][2][]int{
	api.Int64:   {{0}, {0, 2}},
	api.Uint64:  {{0}, {0, 2}},
	api.Sint64:  {{0}, {0, 2}},
	api.Bool:    {{0}, {0, 2}},
	api.Text:    {{2}, {2}},
	api.Bytes:   {{2}, {2}},
	api.Fixed32: {{5}, {5, 2}},
	api.Fixed64: {{1}, {1, 2}},
	api.Enum:    {{0}, {0, 2}},
	api.Message: {{2}, {2}},
}

// plain answers the bytes of a field of that number and type.
func plain(number, wireType int) string {
	b, err := wire.Append(nil, wire.Field{Number: number, Type: wireType})
	if err != api.OK {
		panic(err)
	}
	return string(b)
}

// P9.1 and P9.2: Unknown and Known, for each type of layer 2 and each Kind.
func TestKnownTypes(t *testing.T) {
	s := sampleSchema()
	for kind := api.Int64; kind <= api.Message; kind++ {
		for i, base := range []int{0, repeated} {
			for wireType := -9; wireType <= 9; wireType++ {
				known := slices.Contains(knownTypes[kind][i], wireType)
				if got := Known(s.Messages[0], base+kind, wireType); got != known {
					t.Errorf("Known(%d, %d) = %v", base+kind, wireType, got)
				}
				if !slices.Contains([]int{0, 1, 2, 5}, wireType) {
					continue
				}
				b := plain(base+kind, wireType)
				for _, unknown := range []string{b, plain(15, 0) + b, b + plain(15, 2), plain(15, 5) + b + plain(15, 1), b + b} {
					checkFits(t, s, 0, Message{Unknown: unknown}, !known)
					checkFits(t, s, 1, ofB(field(2, of(), Message{Unknown: unknown})), !known)
					// A field's number is there beside what isn't known of it.
					checkFits(t, s, 0, Message{Fields: []Field{field(1, Int(1))}, Unknown: unknown}, !known)
				}
				// To a message that has no such field, nothing of it is known.
				checkFits(t, s, 2, Message{Type: 2, Unknown: b}, true)
			}
		}
	}
}

// P9.1: Unknown is fields' bytes.
func TestUnknown(t *testing.T) {
	s := sampleSchema()
	for unknown, want := range map[string]bool{
		"":                                     true,
		"\x78\x01":                             true,
		"\x78\x81\x00":                         true, // a varint needn't be the shortest
		"\xf8\x80\x00\x01":                     true,
		"\x7a\x02ab":                           true,
		"\x7d\x01\x02\x03\x04":                 true,
		"\x79\x01\x02\x03\x04\x05\x06\x07\x08": true,
		"\x78\x01\x7a\x02ab\x7d\x01\x02\x03\x04\x78\x01": true,
		"\xf8\xff\xff\xff\x0f\x01":                       true,  // MaxField
		"\xc0\xa3\x09\x01":                               true,  // 19000, which no message may have
		"\x88\x00\x01":                                   false, // field 1, its key not the shortest
		"\x08\x01":                                       false,
		"x":                                              false,
		"\x78\x80":                                       false,
		"\x7a\x03ab":                                     false,
		"\x7d\x01\x02\x03":                               false,
		"\x79\x01\x02\x03\x04\x05\x06\x07":               false,
		"\x7b":                                           false, // types that are none
		"\x7c":                                           false,
		"\x7e\x01":                                       false,
		"\x7f\x01":                                       false,
		"\x00\x01":                                       false, // the number 0
		"\x80\x80\x80\x80\x10\x01":                       false, // above MaxField
		"\x78\xff\xff\xff\xff\xff\xff\xff\xff\xff\x02": false,
		"\x78\x01\x78":     false,
		"\x78\x01\x08\x01": false,
		"\x78\x01\xff":     false,
	} {
		checkFits(t, s, 0, Message{Unknown: unknown}, want)
		checkFits(t, s, 1, ofB(field(2, Message{Unknown: unknown})), want)
	}
	checkFits(t, s, 0, Message{Unknown: strings.Repeat("\x78\x01", 10000)}, true)
	checkFits(t, s, 0, Message{Unknown: strings.Repeat("\x78\x01", 10000) + "\x08\x01"}, false)
}

// nested answers so many Messages in one another, of B and A by turns, the first one of B.
func nested(depth int) Message {
	m := Message{Type: depth % 2, Unknown: "\x78\x01"}
	for i := depth - 1; i >= 1; i-- {
		if i%2 == 1 {
			m = ofB(field(1, Int(0)), field(2, of(), m))
		} else {
			m = of(field(1, Int(0)), field(10, m))
		}
	}
	return m
}

// P9.1: how deep Messages may lie in one another.
func TestDepth(t *testing.T) {
	s := sampleSchema()
	for depth := 1; depth <= 2*api.MaxDepth; depth++ {
		checkFits(t, s, 1, nested(depth), depth <= api.MaxDepth)
	}
	checkFits(t, s, 1, nested(10000), false)
	// It is the depth that counts, not how many there are.
	wide := ofB(field(2, slices.Repeat([]Value{Must(Get(nested(api.MaxDepth), 2)[1])}, 100)...))
	checkFits(t, s, 1, wide, true)
	checkFits(t, s, 0, of(field(10, wide)), false)
	if n, _ := Normal(s, 1, nested(api.MaxDepth)); strings.Contains(show(n), "Int") || strings.Count(show(n), "message") != api.MaxDepth+api.MaxDepth/2 {
		t.Error(show(n))
	}
}

// P9.1: a schema that isn't formed has no messages that anything fits.
func TestSchemaNotFormed(t *testing.T) {
	v := of(field(1, Int(1)))
	for i, change := range []func(s *api.Schema){
		func(s *api.Schema) { *s = api.Schema{} },
		func(s *api.Schema) { s.Messages[2].Name = "A" },
		func(s *api.Schema) { s.Messages[2].Name = "" },
		func(s *api.Schema) { s.Messages[1].Fields[0].Kind = 11 },
		func(s *api.Schema) { s.Messages[0].Fields[9].Type = 3 },
		func(s *api.Schema) { s.Messages[0].Fields[9].Type = -1 },
		func(s *api.Schema) { s.Messages[0].Fields[1].Number = 1 },
		func(s *api.Schema) { s.Messages[0].Fields[9].Type = 0 },
		func(s *api.Schema) { s.Enums[0].Values = nil },
		func(s *api.Schema) { s.Methods = []api.MethodDef{{ID: 2, Service: "S", Name: "m"}} },
		func(s *api.Schema) {
			for i := len(s.Messages); i <= api.MaxTypes; i++ {
				s.Messages = append(s.Messages, api.MessageDef{Name: fmt.Sprint("M", i)})
			}
		},
	} {
		s := sampleSchema()
		checkFits(t, s, 0, v, true)
		change(&s)
		for number := -1; number <= 4; number++ {
			if Fits(s, number, v) || Fits(s, number, Message{Type: number}) {
				t.Errorf("change %d: fits %d", i, number)
			}
			checkFits(t, s, number, Message{Type: number}, false)
		}
	}
	checkFits(t, api.Schema{Messages: []api.MessageDef{{Name: "A"}}}, 0, Message{}, true)
	checkFits(t, api.Schema{Messages: []api.MessageDef{{Name: "A"}}}, 1, Message{Type: 1}, false)
}

// P9.1: what is no Message fits none.
func TestNoMessage(t *testing.T) {
	s := sampleSchema()
	for _, v := range append(others(), Int(0), Uint(0), Bool(true), Text("a"), Bytes(""), Enum(0)) {
		for number := -1; number <= 3; number++ {
			checkFits(t, s, number, v, false)
		}
	}
}

// P9.1: the normal value.
func TestNormal(t *testing.T) {
	s := sampleSchema()
	none := []Value{nil, Int(0), Uint(0), Int(0), Bool(false), Text(""), Bytes(""), Uint(0), Uint(0), Enum(0)}
	some := []Value{nil, Int(-1), Uint(1), Int(1), Bool(true), Text("\x00"), Bytes("\x00"), Uint(1), Uint(1 << 63), Enum(-1)}
	var empty, full, both, lists Message
	for kind := api.Int64; kind <= api.Enum; kind++ {
		empty.Fields = append(empty.Fields, field(kind, none[kind]))
		full.Fields = append(full.Fields, field(kind, some[kind]))
		lists.Fields = append(lists.Fields, field(repeated+kind, none[kind]))
		both.Fields = append(both.Fields, field(repeated+kind, none[kind], some[kind], none[kind]))
		checkNormal(t, s, of(field(kind, none[kind])), of())
		checkNormal(t, s, of(field(kind, some[kind])), of(field(kind, some[kind])))
	}
	checkNormal(t, s, empty, of())
	checkNormal(t, s, full, full)
	checkNormal(t, s, lists, lists)
	checkNormal(t, s, both, both)
	empty.Unknown, full.Unknown = "\x78\x00", "\x7a\x01a"
	checkNormal(t, s, empty, Message{Unknown: "\x78\x00"})
	checkNormal(t, s, full, full)
	// A field with a Message stays; what lies in it is made normal.
	zero, one := field(1, Int(0)), field(1, Int(1))
	checkNormal(t, s, of(zero, field(10, ofB())), of(field(10, ofB())))
	checkNormal(t, s, of(one, field(10, ofB(zero))), of(one, field(10, ofB())))
	checkNormal(t, s, of(field(10, ofB(zero, field(3, Message{Type: 2})))), of(field(10, ofB(field(3, Message{Type: 2})))))
	checkNormal(t, s, of(field(30, ofB(zero), ofB(one), ofB())), of(field(30, ofB(), ofB(one), ofB())))
	deep := ofB(zero, field(2, of(zero, field(2, Uint(7)), field(21, Int(0))), of(zero, field(10, ofB(zero, field(2, of(zero)))))))
	checkNormal(t, s, of(zero, field(10, deep)), of(field(10, ofB(field(2, of(field(2, Uint(7)), field(21, Int(0))), of(field(10, ofB(field(2, of())))))))))
	checkNormal(t, s, of(field(10, Message{Type: 1, Fields: []Field{zero}, Unknown: "\x20\x00"})), of(field(10, Message{Type: 1, Unknown: "\x20\x00"})))
}

// checkNormal asks for the normal value of a Message of A.
func checkNormal(t *testing.T, s api.Schema, v, want Message) {
	t.Helper()
	checkFits(t, s, 0, v, true)
	n, err := Normal(s, 0, v)
	if _, ok := n.(Message); !ok || err != api.OK || !Same(n, want) || show(n) != show(want) {
		t.Errorf("Normal(%s) = %s, %d, want %s", show(v), show(n), err, show(want))
	}
	if show(v) != show(want) && Same(n, v) {
		t.Errorf("%s is told to be as it was", show(n))
	}
}

// distinct are values of which no two are alike.
func distinct() []Value {
	return []Value{
		nil, Int(0), Int(1), Int(-1), Uint(0), Uint(1), Uint(1 << 63), Int(math.MinInt64), Bool(false), Bool(true), Text(""), Text("a"), Text("b"), Text("\xff"), Text("\xfe"), Text("\ufffd"), Bytes(""), Bytes("a"), Bytes("\xff"), Enum(0), Enum(1), Enum(-1),
		Message{}, Message{Type: 1}, Message{Type: -1}, Message{Unknown: "a"}, Message{Unknown: "b"},
		of(field(0)), of(field(1)), of(field(0), field(0)), of(field(1), field(2)), of(field(2), field(1)), of(field(1), field(1)),
		of(field(1, nil)), of(field(1, Int(0))), of(field(1, Int(1))), of(field(1, Uint(0))), of(field(1, Enum(0))), of(field(1, Text(""))), of(field(1, Bytes(""))), of(field(1, Bool(false))), of(field(1, Int(0), Int(0))), of(field(1, Int(0), Int(1))), of(field(1, Int(1), Int(0))), of(field(2, Int(0))),
		of(field(1, Message{})), of(field(1, of(field(1)))), of(field(1, ofB())), of(field(1, Message{}, Message{})), of(field(1, of(field(1, Int(0))))), of(field(1, Message{Unknown: "a"})),
		ofB(field(1, Int(0))), Message{Fields: []Field{field(1, Int(0))}, Unknown: "a"},
		nested(5), nested(6), nested(17),
		foreign(0), foreign(1), of(field(1, foreign(0))),
	}
}

// P9.1: Same of alike values, and of others.
func TestSame(t *testing.T) {
	list, again := distinct(), distinct()
	for i, a := range list {
		for k, b := range again {
			if Same(a, b) != (i == k) {
				t.Errorf("Same(%#v, %#v) = %v", a, b, i != k)
			}
		}
		if !Same(a, a) {
			t.Errorf("%#v isn't like itself", a)
		}
	}
	// R4: no elements are no elements.
	if !Same(Message{Fields: nil}, Message{Fields: []Field{}}) || !Same(of(Field{Number: 1}), of(Field{Number: 1, Values: []Value{}})) {
		t.Error("nil and empty differ")
	}
}

// R1: Same of types from elsewhere, even of such as can't be compared.
func TestSameOfOthers(t *testing.T) {
	values := []Value{Int(1), Uint(1), Bool(true), Text("a"), Bytes("a"), Enum(1), Message{}, of(field(1, nil))}
	for i, a := range others() {
		for _, b := range values {
			if Same(a, b) || Same(b, a) || Same(of(field(1, a)), of(field(1, b))) {
				t.Errorf("Same(%#v, %#v)", a, b)
			}
		}
		for k, b := range others() {
			// All of them but those at one place differ.
			if i != k && (Same(a, b) || Same(of(field(1, a)), of(field(1, b)))) {
				t.Errorf("Same(%#v, %#v)", a, b)
			}
		}
		Same(a, a)
		Same(of(field(1, a)), of(field(1, a)))
	}
	if !Same(foreign(1), foreign(1)) || Same(foreign(1), foreign(2)) || Same(listed{1}, listed{2}) || Same(nil, (*Message)(nil)) {
		t.Error("values of other types")
	}
}

// panics answers whether Must panics.
func panics(v Value) (yes bool) {
	defer func() { yes = recover() != nil }()
	Must(v)
	return false
}

// P9.2: Must of a Message, and of what is none.
func TestMust(t *testing.T) {
	for _, v := range distinct() {
		m, ok := v.(Message)
		if panics(v) == ok {
			t.Errorf("Must(%#v) panics: %v", v, ok)
		}
		if ok && (!Same(Must(v), m) || show(Must(v)) != show(m)) {
			t.Errorf("Must(%#v) = %#v", v, Must(v))
		}
	}
	for _, v := range others() {
		if !panics(v) {
			t.Errorf("Must(%#v) doesn't panic", v)
		}
		// A Message is one, be what lies in it a value or not.
		if m := Must(of(field(1, v))); len(m.Fields) != 1 || show(m) != show(of(field(1, v))) {
			t.Errorf("Must of a Message with %#v = %#v", v, m)
		}
	}
}

// P9.2: Get of a number that is there once, twice, and not at all.
func TestGet(t *testing.T) {
	v := of(field(4, Int(1), Text("a")), field(2, Bool(true)), field(4, Int(9)), field(7), field(7, Int(3)), field(-1, nil, foreign(4)), field(0, ofB(field(1, Int(0)))), field(math.MaxInt, Uint(5)))
	for number, want := range map[int][]Value{
		4: {Int(1), Text("a")}, 2: {Bool(true)}, 7: nil, -1: {nil, foreign(4)}, 0: {ofB(field(1, Int(0)))}, math.MaxInt: {Uint(5)},
		1: nil, 3: nil, 5: nil, -2: nil, math.MinInt: nil,
	} {
		if got := Get(v, number); show(of(field(1, got...))) != show(of(field(1, want...))) {
			t.Errorf("Get(%d) = %v, want %v", number, got, want)
		}
	}
	for _, v := range append(others(), Int(1), Uint(1), Bool(true), Text("a"), Bytes("a"), Enum(1), Message{}, Message{Type: 1, Unknown: "\x08\x01"}) {
		if got := Get(v, 1); len(got) != 0 {
			t.Errorf("Get(%#v, 1) = %v", v, got)
		}
	}
	// It is right in v, not in what lies in v.
	if len(Get(of(field(2, of(field(1, Int(1))))), 1)) != 0 {
		t.Error("Get looks too deep")
	}
}

// P9.2: Known of whatever message.
func TestKnown(t *testing.T) {
	d := api.MessageDef{Fields: []api.FieldDef{{Number: 5, Kind: api.Int64}, {Number: 5, Kind: api.Fixed32}, {Number: 3, Kind: api.Text, Repeated: true}, {Number: 9, Kind: api.Fixed64, Repeated: true}}}
	for number := 0; number <= 10; number++ {
		for wireType := -1; wireType <= 8; wireType++ {
			want := number == 5 && (wireType == 0 || wireType == 5) || number == 3 && wireType == 2 || number == 9 && (wireType == 1 || wireType == 2)
			if Known(d, number, wireType) != want {
				t.Errorf("Known(%d, %d) = %v", number, wireType, !want)
			}
		}
	}
	for _, number := range []int{-1, math.MaxInt, math.MinInt, 1<<32 + 5, api.MaxField} {
		if Known(d, number, 0) || Known(d, 5, number) || Known(api.MessageDef{}, number, 0) {
			t.Errorf("%d", number)
		}
	}
}

// R1: a Message that lies in itself has no end, yet each call has.
func TestEndless(t *testing.T) {
	s := sampleSchema()
	m := ofB(field(2, nil, nil))
	inner := of(field(10, nil), field(30, m, m))
	inner.Fields[0].Values[0] = m
	m.Fields[0].Values[0], m.Fields[0].Values[1] = inner, inner
	checkFits(t, s, 1, m, false)
	Same(m, m)
	Same(inner, Message{})
	if got := Get(m, 2); len(got) != 2 || Must(got[0]).Type != 0 || Must(m).Type != 1 || len(Must(m).Fields) != 1 {
		t.Error("a Message that lies in itself")
	}
}

// R1: as deep as the document's bound goes.
func TestVeryDeep(t *testing.T) {
	s := sampleSchema()
	v := nested(mostNested)
	if Fits(s, 1, v) || !Same(v, nested(mostNested)) || Same(v, nested(mostNested-2)) || !Same(Must(v), v) || !Same(Get(v, 2)[1], Get(nested(mostNested), 2)[1]) {
		t.Error("very deep Messages")
	}
	Must(v).Fields[1].Values[1].(Message).Fields[0].Values[0] = Int(5)
	if !Same(v, nested(mostNested)) {
		t.Error("very deep Messages share memory")
	}
}

// roomy answers v, each list in it with spare room that isn't empty.
func roomy(v Value) Value {
	m, ok := v.(Message)
	if !ok {
		return v
	}
	fields := make([]Field, 0, len(m.Fields)+1)
	for _, f := range m.Fields {
		values := make([]Value, 0, len(f.Values)+1)
		for _, one := range f.Values {
			values = append(values, roomy(one))
		}
		fields = append(fields, Field{f.Number, append(values, Text("spare"))[:len(values)]})
	}
	m.Fields = append(fields, field(77, Text("spare")))[:len(fields)]
	return m
}

// whole answers v with all the spare room of its lists.
func whole(v Value) Value {
	m, ok := v.(Message)
	if !ok {
		return v
	}
	m.Fields = slices.Clone(m.Fields[:cap(m.Fields)])
	for i, f := range m.Fields {
		m.Fields[i].Values = slices.Clone(f.Values[:cap(f.Values)])
		for k, one := range m.Fields[i].Values {
			m.Fields[i].Values[k] = whole(one)
		}
	}
	return m
}

// room is a piece of memory.
type room struct{ from, size uintptr }

// rooms answers the memory of all texts and lists of values, spare room too.
func rooms(values ...Value) []room {
	var out []room
	text := func(s string) {
		out = append(out, room{uintptr(unsafe.Pointer(unsafe.StringData(s))), uintptr(len(s))})
	}
	for _, v := range values {
		switch v := v.(type) {
		case Text:
			text(string(v))
		case Bytes:
			text(string(v))
		case Message:
			text(v.Unknown)
			out = append(out, room{uintptr(unsafe.Pointer(unsafe.SliceData(v.Fields))), uintptr(cap(v.Fields)) * unsafe.Sizeof(Field{})})
			for _, f := range v.Fields {
				out = append(out, room{uintptr(unsafe.Pointer(unsafe.SliceData(f.Values))), uintptr(cap(f.Values)) * unsafe.Sizeof(v.Fields[0].Values[0])})
				out = append(out, rooms(f.Values...)...)
			}
		}
	}
	return slices.DeleteFunc(out, func(r room) bool { return r.size == 0 })
}

// apart asks that no two of an answer's pieces of memory, nor one of them and one of
// an argument, meet.
func apart(t *testing.T, what string, answer, argument []room) {
	t.Helper()
	for i, a := range answer {
		for _, b := range append(argument, answer[:i]...) {
			if a.from < b.from+b.size && b.from < a.from+a.size {
				t.Errorf("%s: memory is shared", what)
				return
			}
		}
	}
}

// rich answers a value of A with texts and lists of all sorts, built anew.
func rich() Value {
	text := func(s string) string { return strings.Clone(s) }
	inner := Message{Type: 1, Fields: []Field{field(1, Int(0)), field(2, of(field(5, Text(text("in")))), of()), field(3, Message{Type: 2, Unknown: text("\x08\x01")})}, Unknown: text("\x20\x01")}
	return roomy(Message{Fields: []Field{field(1, Int(0)), field(5, Text(text("some text"))), field(6, Bytes(text("some bytes"))), field(10, inner), field(25, Text(text("")), Text(text("a")), Text(text("b"))), field(26, Bytes(text("c")), Bytes(text("d"))), field(30, inner, inner)}, Unknown: text("\x78\x01")})
}

// R2 and R3: answers hang on the arguments alone, which are left as they are, spare
// room too, and are new memory.
func TestMemory(t *testing.T) {
	s, v := sampleSchema(), rich()
	argument := rooms(v)
	if !Fits(s, 0, v) || !Fits(s, 0, v) || !Same(v, v) {
		t.Error("it doesn't fit")
	}
	first, err := Normal(s, 0, v)
	second, _ := Normal(s, 0, v)
	if err != api.OK || show(first) != show(second) {
		t.Errorf("%s, then %s", show(first), show(second))
	}
	apart(t, "Normal", rooms(first), append(argument, rooms(second)...))
	apart(t, "Must", rooms(Must(v)), argument)
	for _, f := range v.(Message).Fields {
		apart(t, fmt.Sprint("Get ", f.Number), rooms(of(field(1, Get(v, f.Number)...))), argument)
	}
	if !reflect.DeepEqual(whole(v), whole(rich())) || !reflect.DeepEqual(s, sampleSchema()) {
		t.Error("an argument was changed")
	}
	// A normal value's normal value is new, too.
	again, _ := Normal(s, 0, first)
	apart(t, "Normal of a normal value", rooms(again), rooms(first))
	// What doesn't fit is left as it is, too.
	wrong := roomy(of(field(5, Text("a")), field(10, ofB(field(1, Int(0)), field(9, Text("b"))))))
	same := roomy(of(field(5, Text("a")), field(10, ofB(field(1, Int(0)), field(9, Text("b"))))))
	Normal(s, 0, wrong)
	if Fits(s, 0, wrong) || !reflect.DeepEqual(whole(wrong), whole(same)) {
		t.Error("an argument that doesn't fit was changed")
	}
	apart(t, "Must of what doesn't fit", rooms(Must(wrong)), rooms(wrong))
}
