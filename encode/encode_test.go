package encode

import (
	"bytes"
	"encoding/hex"
	"math"
	"reflect"
	"slices"
	"strings"
	"testing"
	"unsafe"

	"courier/api"
	"courier/schema"
	"courier/value"
	"courier/wire"
)

// declared has a field of each Kind, by the Kind's number, and a repeated one of
// each, by that and 20. All is the message 0, Part 1, Empty 2 and Far 3.
const declared = `
message All {
	int64 i = 1; uint64 u = 2; sint64 z = 3; bool b = 4; string t = 5;
	bytes y = 6; fixed32 f = 7; fixed64 g = 8; E e = 9; Part p = 10;
	repeated int64 ri = 21; repeated uint64 ru = 22; repeated sint64 rz = 23; repeated bool rb = 24; repeated string rt = 25;
	repeated bytes ry = 26; repeated fixed32 rf = 27; repeated fixed64 rg = 28; repeated E re = 29; repeated Part rp = 30;
}
message Part { sint64 n = 1; repeated All all = 2; Empty none = 3; string t = 4; }
message Empty {}
message Far { bool a = 15; bool b = 16; bool c = 2047; bool d = 2048; string e = 18999; repeated bool l = 536870911; }
enum E { zero = 0; one = 1; }
`

// declaredSchema answers the schema of what is declared.
func declaredSchema() api.Schema { return compiled(declared) }

func compiled(text string) api.Schema {
	s, _, err := schema.Compile(text)
	if err != api.OK {
		panic(err)
	}
	return s
}

// all answers a Message of All.
func all(fields ...value.Field) value.Message { return value.Message{Fields: fields} }

// part answers a Message of Part.
func part(fields ...value.Field) value.Message { return value.Message{Type: 1, Fields: fields} }

func field(number int, values ...value.Value) value.Field {
	return value.Field{Number: number, Values: values}
}

// unhex answers the bytes of a text like "08 96 01".
func unhex(text string) []byte {
	b, err := hex.DecodeString(strings.ReplaceAll(text, " ", ""))
	if err != nil {
		panic(err)
	}
	return b
}

// check asks all that the package promises of a value that fits: want are its bytes.
func check(t *testing.T, s api.Schema, number int, v value.Value, want []byte) {
	t.Helper()
	if got := Size(s, number, v); got != len(want) {
		t.Errorf("Size(%d, %#v) = %d, want %d", number, v, got, len(want))
	}
	b, err := Encode(s, number, v)
	normal, refused := value.Normal(s, number, v)
	if refused != api.OK {
		t.Errorf("%#v doesn't fit", v)
		return
	}
	same, again := Encode(s, number, normal)
	if !bytes.Equal(b, same) || err != again || Size(s, number, normal) != len(want) {
		t.Errorf("Encode(%d, %#v) = %x, %d, that of its normal value = %x, %d", number, v, b, err, same, again)
	}
	if len(want) > api.MaxSize {
		if len(b) != 0 || err != api.ErrLong {
			t.Errorf("Encode(%d, %#v) = %x, %d, want ErrLong", number, v, b, err)
		}
		return
	}
	if !bytes.Equal(b, want) || err != api.OK {
		t.Errorf("Encode(%d, %#v) = %x, %d, want %x", number, v, b, err, want)
		return
	}
	if _, pieces, err := wire.Split(b); err != api.OK || !bytes.Equal(slices.Concat(pieces...), b) {
		t.Errorf("%x isn't just fields", b)
	}
	if back := readBack(s, number, b); !value.Same(back, normal) {
		t.Errorf("%x is read back as %#v, want %#v", b, back, normal)
	}
}

// checkHex asks the same of a Message of All.
func checkHex(t *testing.T, v value.Value, want string) {
	t.Helper()
	check(t, declaredSchema(), 0, v, unhex(want))
}

// checkRefused asks what is answered if a value doesn't fit.
func checkRefused(t *testing.T, s api.Schema, number int, v value.Value) {
	t.Helper()
	if b, err := Encode(s, number, v); len(b) != 0 || err != api.ErrArg {
		t.Errorf("Encode(%d, %#v) = %x, %d, want ErrArg", number, v, b, err)
	}
	if got := Size(s, number, v); got != 0 {
		t.Errorf("Size(%d, %#v) = %d, want 0", number, v, got)
	}
}

// The chapter's examples.
func TestExamples(t *testing.T) {
	s := compiled("message A { int64 x = 1; repeated int64 l = 4; }")
	check(t, s, 0, all(field(1, value.Int(150))), unhex("08 96 01"))
	check(t, s, 0, all(field(4, value.Int(3), value.Int(270))), unhex("22 03 03 8e 02"))
	check(t, s, 0, all(field(1, value.Int(150)), field(4, value.Int(3), value.Int(270))), unhex("08 96 01 22 03 03 8e 02"))
}

// ofKind are, by Kind, values and what is written of each: its bytes, and of the
// Kinds Text, Bytes and Message their length ahead. The first one is that by default.
func ofKind(kind int) ([]value.Value, []string) {
	const ff9 = "ff ff ff ff ff ff ff ff ff "
	switch kind {
	case api.Int64:
		return []value.Value{value.Int(0), value.Int(1), value.Int(127), value.Int(128), value.Int(150), value.Int(-1), value.Int(-2), value.Int(math.MaxInt64), value.Int(math.MinInt64)},
			[]string{"00", "01", "7f", "80 01", "96 01", ff9 + "01", "fe ff ff ff ff ff ff ff ff 01", "ff ff ff ff ff ff ff ff 7f", "80 80 80 80 80 80 80 80 80 01"}
	case api.Uint64:
		return []value.Value{value.Uint(0), value.Uint(1), value.Uint(300), value.Uint(1 << 63), value.Uint(math.MaxUint64)},
			[]string{"00", "01", "ac 02", "80 80 80 80 80 80 80 80 80 01", ff9 + "01"}
	case api.Sint64:
		return []value.Value{value.Int(0), value.Int(-1), value.Int(1), value.Int(-2), value.Int(-64), value.Int(64), value.Int(math.MaxInt64), value.Int(math.MinInt64)},
			[]string{"00", "01", "02", "03", "7f", "80 01", "fe ff ff ff ff ff ff ff ff 01", ff9 + "01"}
	case api.Bool:
		return []value.Value{value.Bool(false), value.Bool(true)}, []string{"00", "01"}
	case api.Text:
		return []value.Value{value.Text(""), value.Text("ab"), value.Text("\x00"), value.Text("λ"), value.Text(strings.Repeat("a", 128))},
			[]string{"00", "02 61 62", "01 00", "02 ce bb", "80 01" + strings.Repeat("61", 128)}
	case api.Bytes:
		return []value.Value{value.Bytes(""), value.Bytes("ab"), value.Bytes("\x00"), value.Bytes("\xff\xfe"), value.Bytes(strings.Repeat("\xff", 127))},
			[]string{"00", "02 61 62", "01 00", "02 ff fe", "7f" + strings.Repeat("ff", 127)}
	case api.Fixed32:
		return []value.Value{value.Uint(0), value.Uint(1), value.Uint(0x12345678), value.Uint(math.MaxUint32)},
			[]string{"00 00 00 00", "01 00 00 00", "78 56 34 12", "ff ff ff ff"}
	case api.Fixed64:
		return []value.Value{value.Uint(0), value.Uint(1), value.Uint(0x123456789abcdef0), value.Uint(math.MaxUint64)},
			[]string{"00 00 00 00 00 00 00 00", "01 00 00 00 00 00 00 00", "f0 de bc 9a 78 56 34 12", "ff ff ff ff ff ff ff ff"}
	case api.Enum:
		return []value.Value{value.Enum(0), value.Enum(1), value.Enum(7), value.Enum(-1), value.Enum(math.MaxInt32), value.Enum(math.MinInt32)},
			[]string{"00", "01", "07", ff9 + "01", "ff ff ff ff 07", "80 80 80 80 f8 ff ff ff ff 01"}
	}
	return []value.Value{part(), part(field(1, value.Int(-1))), part(field(3, value.Message{Type: 2})), value.Message{Type: 1, Unknown: "\x28\x01"}},
		[]string{"00", "02 08 01", "02 1a 00", "02 28 01"}
}

// The first bytes of the fields of each Kind: of one, and of a repeated one.
func keys(kind int) (string, string) {
	return []string{"", "08", "10", "18", "20", "2a", "32", "3d", "41", "48", "52"}[kind],
		[]string{"", "aa 01", "b2 01", "ba 01", "c2 01", "ca 01", "d2 01", "da 01", "e2 01", "ea 01", "f2 01"}[kind]
}

// isPacked answers whether a repeated field of that Kind is one field on the wire.
func isPacked(kind int) bool {
	return slices.Contains([]int{api.Int64, api.Uint64, api.Sint64, api.Bool, api.Fixed32, api.Fixed64, api.Enum}, kind)
}

// length answers, as hex, how many bytes a text of hex has.
func length(text string) string {
	n := len(unhex(text))
	if n < 128 {
		return hex.EncodeToString([]byte{byte(n)})
	}
	return hex.EncodeToString([]byte{byte(n) | 0x80, byte(n >> 7)})
}

// P10.1: each Kind in a field that isn't repeated.
func TestKinds(t *testing.T) {
	for kind := api.Int64; kind <= api.Message; kind++ {
		key, _ := keys(kind)
		values, contents := ofKind(kind)
		for i, v := range values {
			want := key + contents[i]
			if i == 0 && kind != api.Message {
				want = ""
			}
			checkHex(t, all(field(kind, v)), want)
		}
	}
}

// P10.1: each Kind in a repeated field, with one value and with several; none is
// left out.
func TestRepeatedKinds(t *testing.T) {
	for kind := api.Int64; kind <= api.Message; kind++ {
		_, key := keys(kind)
		values, contents := ofKind(kind)
		list := func(at ...int) {
			t.Helper()
			var chosen []value.Value
			want, pack := "", ""
			for _, i := range at {
				chosen = append(chosen, values[i])
				want += key + contents[i]
				pack += contents[i]
			}
			if isPacked(kind) {
				want = key + length(pack) + pack
			}
			checkHex(t, all(field(20+kind, chosen...)), want)
		}
		var rising []int
		for i := range values {
			list(i)
			list(i, i)
			list(0, i, 0)
			list(i, 0, 1)
			rising = append(rising, i)
		}
		list(rising...)
		slices.Reverse(rising)
		list(rising...)
		list(slices.Repeat([]int{1}, 200)...)
	}
}

// P10.1: one by one, as hand-written bytes.
func TestWritten(t *testing.T) {
	checkHex(t, all(), "")
	checkHex(t, all(field(21, value.Int(0))), "aa 01 01 00")
	checkHex(t, all(field(21, value.Int(3), value.Int(-1), value.Int(270))), "aa 01 0d 03 ff ff ff ff ff ff ff ff ff 01 8e 02")
	checkHex(t, all(field(23, value.Int(-2), value.Int(2))), "ba 01 02 03 04")
	checkHex(t, all(field(24, value.Bool(true), value.Bool(false), value.Bool(true))), "c2 01 03 01 00 01")
	checkHex(t, all(field(25, value.Text(""), value.Text("a"), value.Text(""))), "ca 01 00 ca 01 01 61 ca 01 00")
	checkHex(t, all(field(26, value.Bytes("\xff"), value.Bytes(""))), "d2 01 01 ff d2 01 00")
	checkHex(t, all(field(27, value.Uint(1), value.Uint(0))), "da 01 08 01 00 00 00 00 00 00 00")
	checkHex(t, all(field(28, value.Uint(1<<56))), "e2 01 08 00 00 00 00 00 00 00 01")
	checkHex(t, all(field(29, value.Enum(-1), value.Enum(0), value.Enum(1))), "ea 01 0c ff ff ff ff ff ff ff ff ff 01 00 01")
	checkHex(t, all(field(30, part(), part(field(1, value.Int(1))), part())), "f2 01 00 f2 01 02 08 02 f2 01 00")
}

// P10.1: several fields, rising, those by default left out.
func TestSeveralFields(t *testing.T) {
	var m, none value.Message
	var want, packs string
	for kind := api.Int64; kind <= api.Message; kind++ {
		values, contents := ofKind(kind)
		key, repeated := keys(kind)
		m.Fields = append(m.Fields, field(kind, values[1]))
		want += key + contents[1]
		none.Fields = append(none.Fields, field(kind, values[0]))
		if isPacked(kind) {
			packs += repeated + length(contents[0]+contents[1]) + contents[0] + contents[1]
		} else {
			packs += repeated + contents[0] + repeated + contents[1]
		}
	}
	checkHex(t, m, want)
	checkHex(t, none, "52 00")
	for kind := api.Int64; kind <= api.Message; kind++ {
		values, _ := ofKind(kind)
		m.Fields = append(m.Fields, field(20+kind, values[:2]...))
		none.Fields = append(none.Fields, field(20+kind, values[:2]...))
	}
	checkHex(t, m, want+packs)
	checkHex(t, none, "52 00"+packs)
	m.Unknown, none.Unknown = "\x78\x01\x09abcdefgh", "\x0a\x00"
	checkHex(t, m, want+packs+"78 01 09 6162636465666768")
	checkHex(t, none, "52 00"+packs+"0a 00")
	checkHex(t, all(field(1, value.Int(1)), field(4, value.Bool(false)), field(7, value.Uint(2)), field(30, part())), "08 01 3d 02 00 00 00 f2 01 00")
}

// P10.1: numbers of fields that need more bytes.
func TestFarNumbers(t *testing.T) {
	far := func(want string, fields ...value.Field) {
		t.Helper()
		check(t, declaredSchema(), 3, value.Message{Type: 3, Fields: fields}, unhex(want))
	}
	yes := value.Bool(true)
	far("78 01", field(15, yes))
	far("80 01 01", field(16, yes))
	far("f8 7f 01", field(2047, yes))
	far("80 80 01 01", field(2048, yes))
	far("ba a3 09 01 61", field(18999, value.Text("a")))
	far("fa ff ff ff 0f 02 01 00", field(api.MaxField, yes, value.Bool(false)))
	far("78 01 80 01 01 f8 7f 01 80 80 01 01 fa ff ff ff 0f 01 01", field(15, yes), field(16, yes), field(2047, yes), field(2048, yes), field(api.MaxField, yes))
}

// nested answers a Message in which that many lie, All and Part by turns, the
// innermost one with that Unknown.
func nested(count int, unknown string) value.Message {
	m := value.Message{Type: (count + 1) % 2, Unknown: unknown}
	for n := count - 1; n >= 1; n-- {
		if n%2 == 1 {
			m = all(field(10, m))
		} else {
			m = part(field(2, m))
		}
	}
	return m
}

// P10.1: Messages in Messages, without what is as by default, as deep as may be.
func TestNested(t *testing.T) {
	zero, text := field(1, value.Int(0)), field(4, value.Text("a"))
	checkHex(t, all(zero, field(10, part())), "52 00")
	checkHex(t, all(field(10, part(zero))), "52 00")
	checkHex(t, all(field(10, part(zero, text))), "52 03 22 01 61")
	checkHex(t, all(field(10, part(zero, field(2, all(zero), all(field(1, value.Int(1)))), field(3, value.Message{Type: 2}), text))), "52 0b 12 00 12 02 08 01 1a 00 22 01 61")
	checkHex(t, all(field(30, part(zero), part(zero, text), part(field(4, value.Text(""))))), "f2 01 00 f2 01 03 22 01 61 f2 01 00")
	checkHex(t, all(field(10, part(field(2, all(zero, field(21, value.Int(0))))))), "52 06 12 04 aa 01 01 00")
	// Of a long one the length has two bytes.
	checkHex(t, all(field(10, part(field(4, value.Text(strings.Repeat("a", 126)))))), "52 80 01 22 7e"+strings.Repeat("61", 126))
	checkHex(t, nested(api.MaxDepth, ""), "52 1c 12 1a 52 18 12 16 52 14 12 12 52 10 12 0e 52 0c 12 0a 52 08 12 06 52 04 12 02 52 00")
	checkRefused(t, declaredSchema(), 0, nested(api.MaxDepth+1, ""))
	check(t, declaredSchema(), 1, part(field(1, value.Int(1))), unhex("08 02"))
	check(t, declaredSchema(), 2, value.Message{Type: 2}, nil)
}

// P10.1: Unknown stands behind all fields, as it is, in each Message.
func TestUnknown(t *testing.T) {
	s := declaredSchema()
	for unknown, want := range map[string]string{
		"\x78\x01": "78 01", "\x78\x81\x00": "78 81 00", "\x09abcdefgh": "09 61 62 63 64 65 66 67 68",
		"\x7a\x00\x58\x00": "7a 00 58 00", "\x80\x82\x00\x01": "80 82 00 01",
	} {
		length := hex.EncodeToString([]byte{byte(len(unknown))})
		check(t, s, 0, value.Message{Unknown: unknown}, unhex(want))
		check(t, s, 0, value.Message{Fields: []value.Field{field(1, value.Int(0)), field(2, value.Uint(5)), field(30, part())}, Unknown: unknown}, unhex("10 05 f2 01 00"+want))
		inner := value.Message{Type: 1, Fields: []value.Field{field(2, value.Message{Unknown: unknown})}}
		check(t, s, 1, inner, unhex("12"+length+want))
		check(t, s, 2, value.Message{Type: 2, Unknown: unknown}, unhex(want))
	}
	both := value.Message{Fields: []value.Field{field(10, value.Message{Type: 1, Fields: []value.Field{field(1, value.Int(1)), field(4, value.Text(""))}, Unknown: "\x28\x02"}), field(30, value.Message{Type: 1, Unknown: "\x28\x03"}, part())}, Unknown: "\x58\x04"}
	check(t, s, 0, both, unhex("52 04 08 02 28 02 f2 01 02 28 03 f2 01 00 58 04"))
	check(t, s, 0, nested(3, "\x58\x01"), unhex("52 04 12 02 58 01"))
}

// P10.1: just MaxSize bytes, and one more, of what can be long.
func TestMaxSize(t *testing.T) {
	s := declaredSchema()
	long := func(v value.Message, head string, content string, count int) {
		t.Helper()
		check(t, s, v.Type, v, append(unhex(head), strings.Repeat(content, count)...))
	}
	for _, more := range []int{-1, 0, 1, 2, 100} {
		n := 4093 + more
		text := strings.Repeat("a", n)
		two := hex.EncodeToString([]byte{byte(n) | 0x80, byte(n >> 7)})
		long(all(field(5, value.Text(text))), "2a"+two, "a", n)
		long(all(field(6, value.Bytes(text))), "32"+two, "a", n)
		// What is left out doesn't count.
		long(all(field(1, value.Int(0)), field(5, value.Text(text)), field(8, value.Uint(0))), "2a"+two, "a", n)
		long(value.Message{Type: 2, Unknown: "\x0a" + string(unhex(two)) + text}, "0a"+two, "a", n)
		long(value.Message{Type: 2, Unknown: strings.Repeat("\x08\x01", 2048+more)}, "", "\x08\x01", 2048+more)
		// A Message in a Message has its own length ahead.
		head := hex.EncodeToString([]byte{byte(n-3) | 0x80, byte((n - 3) >> 7)})
		long(all(field(10, part(field(4, value.Text(text[:n-3]))))), "52"+hex.EncodeToString([]byte{byte(n) | 0x80, byte(n >> 7)})+"22"+head, "a", n-3)
		var values, messages, empties []value.Value
		for range n - 1 {
			values = append(values, value.Int(1))
		}
		for range 1365 + more {
			messages = append(messages, part())
			empties = append(empties, value.Text(""))
		}
		long(all(field(21, values...)), "aa 01"+hex.EncodeToString([]byte{byte(n-1) | 0x80, byte((n - 1) >> 7)}), "\x01", n-1)
		long(value.Message{Fields: []value.Field{field(30, messages...)}}, "", "\xf2\x01\x00", 1365+more)
		long(value.Message{Fields: []value.Field{field(25, empties...)}}, "", "\xca\x01\x00", 1365+more)
	}
	// One byte more by Unknown, and by another field.
	full := all(field(5, value.Text(strings.Repeat("a", 4091))))
	check(t, s, 0, full, append(unhex("2a fb 1f"), strings.Repeat("a", 4091)...))
	full.Unknown = "\x58\x01"
	check(t, s, 0, full, append(append(unhex("2a fb 1f"), strings.Repeat("a", 4091)...), "\x58\x01"...))
	full.Unknown = "\x58\x81\x00"
	check(t, s, 0, full, append(append(unhex("2a fb 1f"), strings.Repeat("a", 4091)...), "\x58\x81\x00"...))
	full.Unknown = ""
	full.Fields = append(full.Fields, field(6, value.Bytes("a")))
	check(t, s, 0, full, append(append(unhex("2a fb 1f"), strings.Repeat("a", 4091)...), "\x32\x01a"...))
}

// P10.1: Size of much more than MaxSize bytes.
func TestGreatSizes(t *testing.T) {
	s := declaredSchema()
	great := func(v value.Value, want int) {
		t.Helper()
		if got := Size(s, 0, v); got != want {
			t.Errorf("Size = %d, want %d", got, want)
		}
		if b, err := Encode(s, 0, v); len(b) != 0 || err != api.ErrLong {
			t.Errorf("Encode: %d bytes, %d, want ErrLong", len(b), err)
		}
	}
	great(all(field(5, value.Text(strings.Repeat("a", 1<<20)))), 1+3+1<<20)
	great(all(field(21, slices.Repeat([]value.Value{value.Int(-1)}, 300000)...)), 2+4+3000000)
	great(all(field(24, slices.Repeat([]value.Value{value.Bool(false)}, 1<<21)...)), 2+4+1<<21)
	great(all(field(28, slices.Repeat([]value.Value{value.Uint(0)}, 5000)...)), 2+3+40000)
	great(all(field(30, slices.Repeat([]value.Value{part(field(1, value.Int(1)))}, 100000)...)), 500000)
	great(nested(api.MaxDepth-1, strings.Repeat("\x58\x01", 1<<19)), 14*4+1<<20)
}

// elsewhere and hidden are types from elsewhere that have a Kind, too.
type (
	elsewhere int
	hidden    struct{ value.Message }
)

func (elsewhere) Kind() int { return 7 }

// misfits are what fits nothing.
func misfits() []value.Value {
	n, m := value.Int(1), value.Message{}
	return []value.Value{nil, elsewhere(0), hidden{}, &n, &m, (*value.Int)(nil), (*value.Message)(nil), (*hidden)(nil)}
}

// P10.1: what doesn't fit has no bytes.
func TestMisfits(t *testing.T) {
	s := declaredSchema()
	wrong := append(misfits(), value.Int(0), value.Uint(1), value.Bool(true), value.Text("a"), value.Bytes(""), value.Enum(0))
	for _, v := range wrong {
		for number := range s.Messages {
			checkRefused(t, s, number, v)
		}
	}
	for kind := api.Int64; kind <= api.Message; kind++ {
		values, _ := ofKind(kind)
		for _, v := range misfits() {
			checkRefused(t, s, 0, all(field(kind, v)))
			checkRefused(t, s, 0, all(field(20+kind, values[1], v)))
		}
		checkRefused(t, s, 0, all(field(kind)))
		checkRefused(t, s, 0, all(field(20+kind)))
		checkRefused(t, s, 0, all(field(kind, values[1], values[1])))
		for other := api.Int64; other <= api.Message; other++ {
			strange, _ := ofKind(other)
			if strange[1].Kind() != values[1].Kind() {
				checkRefused(t, s, 0, all(field(kind, strange[1])))
				checkRefused(t, s, 0, all(field(20+kind, values[1], strange[0])))
			}
		}
	}
	one, two := field(1, value.Int(1)), field(2, value.Uint(1))
	for _, v := range []value.Message{
		{Type: 1}, {Type: -1}, {Type: 4}, all(two, one), all(one, one), all(field(0, value.Int(1))), all(field(11, value.Int(1))), all(field(-1, value.Int(1))), all(field(31, value.Int(1))),
		all(field(5, value.Text("\xff"))), all(field(25, value.Text("a"), value.Text("\xed\xa0\x80"))), all(field(7, value.Uint(1<<32))), all(field(27, value.Uint(1), value.Uint(math.MaxUint64))),
		{Unknown: "\x08\x01"}, {Unknown: "\xaa\x01\x00"}, {Unknown: "\xa8\x01\x00"}, {Unknown: "\x78\x02\xa8\x01\x00"}, {Unknown: "x"}, {Unknown: "\x78"}, {Unknown: "\x03"},
		all(field(10, all())), all(field(10, part(two))), all(field(30, part(), part(field(4, value.Text("\xff"))))), all(field(10, value.Message{Type: 1, Unknown: "\x22\x00"})),
	} {
		checkRefused(t, s, 0, v)
	}
	// It is refused ahead of being too long.
	checkRefused(t, s, 0, all(field(5, value.Text(strings.Repeat("a", 5000))), field(7, value.Uint(1<<32))))
	checkRefused(t, s, 0, all(field(5, value.Text(strings.Repeat("a", 5000)+"\xff"))))
}

// P10.1: a schema that isn't formed, and a message that isn't there.
func TestNoSuchMessage(t *testing.T) {
	s := declaredSchema()
	for _, number := range []int{-1, 4, 64, math.MaxInt, math.MinInt} {
		checkRefused(t, s, number, value.Message{Type: number})
		checkRefused(t, s, number, value.Message{})
		checkRefused(t, s, number, nil)
		checkRefused(t, api.Schema{}, number, value.Message{Type: number})
	}
	checkRefused(t, api.Schema{}, 0, value.Message{})
	fields := func(list ...api.FieldDef) api.Schema {
		return api.Schema{Messages: []api.MessageDef{{Name: "A", Fields: list}}}
	}
	x := api.FieldDef{Number: 1, Name: "x", Kind: api.Int64}
	y := api.FieldDef{Number: 2, Name: "y", Kind: api.Int64}
	v := all(field(1, value.Int(1)))
	check(t, fields(x, y), 0, v, unhex("08 01"))
	for _, s := range []api.Schema{
		fields(y, x), fields(x, x), fields(x, api.FieldDef{Number: 2, Name: "x", Kind: api.Int64}), fields(x, api.FieldDef{Number: 2, Name: "y"}), fields(x, api.FieldDef{Number: 2, Name: "y", Kind: 11}),
		fields(x, api.FieldDef{Number: 2, Name: "y", Kind: api.Enum}), fields(x, api.FieldDef{Number: 2, Name: "y", Kind: api.Message}), fields(x, api.FieldDef{Number: 2, Name: "y", Kind: api.Message, Type: 1, Repeated: true}),
		fields(x, api.FieldDef{Number: 19000, Name: "y", Kind: api.Int64}), fields(x, api.FieldDef{Number: api.MaxField + 1, Name: "y", Kind: api.Int64}), fields(api.FieldDef{Number: 1, Name: "x", Kind: api.Int64, Type: 1}), fields(api.FieldDef{Number: 1, Name: "1", Kind: api.Int64}),
		{Messages: []api.MessageDef{{Name: "A", Fields: []api.FieldDef{x}}, {Name: "A"}}}, {Messages: []api.MessageDef{{Fields: []api.FieldDef{x}}}},
		{Messages: []api.MessageDef{{Name: "A", Fields: []api.FieldDef{x}}}, Enums: []api.EnumDef{{Name: "E"}}}, {Messages: []api.MessageDef{{Name: "A", Fields: []api.FieldDef{x}}}, Methods: []api.MethodDef{{ID: 2, Service: "S", Name: "m"}}},
	} {
		checkRefused(t, s, 0, v)
		checkRefused(t, s, 0, value.Message{})
	}
}

// R1: a Message that lies in itself has no end, yet each call has.
func TestInItself(t *testing.T) {
	m := part(field(2, nil, nil))
	inner := all(field(10, m))
	m.Fields[0].Values[0], m.Fields[0].Values[1] = inner, inner
	checkRefused(t, declaredSchema(), 1, m)
	checkRefused(t, declaredSchema(), 0, inner)
}

// spread answers a value that has memory of all sorts, with spare room in its lists.
func spread() value.Message {
	inner := value.Message{Type: 1, Fields: append(make([]value.Field, 0, 9), field(1, value.Int(0)), field(4, value.Text(strings.Repeat("in", 3)))), Unknown: strings.Repeat("\x28\x01", 2)}
	return value.Message{
		Fields: append(make([]value.Field, 0, 9), field(1, value.Int(0)), field(5, value.Text(strings.Repeat("t", 9))), field(6, value.Bytes(strings.Repeat("b", 9))),
			field(21, append(make([]value.Value, 0, 9), value.Int(0), value.Int(5))...), field(30, append(make([]value.Value, 0, 9), inner, inner)...)),
		Unknown: strings.Repeat("\x58\x01", 3),
	}
}

// R2 and R3: answers hang on the arguments alone, which are left as they are, spare
// room too, and are new memory.
func TestMemory(t *testing.T) {
	s := declaredSchema()
	v := spread()
	texts := []string{v.Unknown, string(v.Fields[1].Values[0].(value.Text)), string(v.Fields[2].Values[0].(value.Bytes))}
	first, err := Encode(s, 0, v)
	if err != api.OK || len(first) == 0 {
		t.Fatal(first, err)
	}
	want := bytes.Clone(first)
	first = first[:cap(first)]
	for i := range first {
		first[i] = 0xee
	}
	second, _ := Encode(s, 0, v)
	if !bytes.Equal(second, want) || Size(s, 0, v) != len(want) {
		t.Errorf("%x, then %x", want, second)
	}
	for _, text := range texts {
		at, from := uintptr(unsafe.Pointer(unsafe.StringData(text))), uintptr(unsafe.Pointer(&second[0]))
		if at < from+uintptr(cap(second)) && from < at+uintptr(len(text)) {
			t.Error("memory is shared")
		}
	}
	if !reflect.DeepEqual(v, spread()) || !reflect.DeepEqual(s, declaredSchema()) {
		t.Error("an argument was changed")
	}
	spare := v.Fields[:cap(v.Fields)]
	for _, f := range spare[len(v.Fields):] {
		if f.Number != 0 || f.Values != nil {
			t.Error("spare room was changed")
		}
	}
	// What is Unknown alone, or one text alone, isn't handed out either.
	alone := strings.Repeat("\x58\x01", 4)
	b, _ := Encode(s, 0, value.Message{Unknown: alone})
	b[0] = 0xee
	if alone != "\x58\x01\x58\x01\x58\x01\x58\x01" {
		t.Error("Unknown was handed out")
	}
}

// R4: lists of no elements are nil or empty.
func TestNoElements(t *testing.T) {
	check(t, declaredSchema(), 0, value.Message{Fields: []value.Field{}}, nil)
	check(t, api.Schema{Messages: []api.MessageDef{{Name: "A", Fields: []api.FieldDef{}}}, Enums: []api.EnumDef{}, Methods: []api.MethodDef{}}, 0, value.Message{}, nil)
}
