package decode

import (
	"bytes"
	"encoding/hex"
	"fmt"
	"math"
	"reflect"
	"slices"
	"strings"
	"testing"
	"unsafe"

	"courier/api"
	"courier/encode"
	"courier/schema"
	"courier/value"
)

// declared has a field of each Kind, by the Kind's number, and a repeated one of
// each, by that and 20. All is the message 0, Part 1, Empty 2 and Far 3.
const declared = `
message All {
	int64 i = 1; uint64 u = 2; sint64 z = 3; bool b = 4; string t = 5;
	bytes y = 6; fixed32 f = 7; fixed64 g = 8; E e = 9; Part p = 10;
	repeated int64 ri = 21; repeated uint64 ru = 22; repeated sint64 rz = 23; repeated bool rb = 24; repeated string rt = 25;
	repeated bytes ry = 26; repeated fixed32 rf = 27; repeated fixed64 rg = 28; repeated E re = 29; repeated Part rp = 30;
}
message Part { sint64 n = 1; repeated All all = 2; Empty none = 3; string t = 4; repeated bool l = 5; }
message Empty {}
message Far { bool a = 15; bool b = 16; bool c = 2047; bool d = 2048; string e = 18999; repeated bool l = 536870911; }
enum E { zero = 0; one = 1; }
`

// declaredSchema answers the schema of what is declared.
func declaredSchema() api.Schema { return compiled(declared) }

func compiled(text string) api.Schema {
	s, _, err := schema.Compile(text)
	if err != api.OK {
		panic(err)
	}
	return s
}

// all answers a Message of All.
func all(fields ...value.Field) value.Message { return value.Message{Fields: fields} }

// part answers a Message of Part.
func part(fields ...value.Field) value.Message { return value.Message{Type: 1, Fields: fields} }

// with answers m with that Unknown.
func with(m value.Message, unknown string) value.Message {
	m.Unknown = string(unhex(unknown))
	return m
}

// show answers a value as a text.
func show(v value.Value) string { return fmt.Sprintf("%#v", v) }

func field(number int, values ...value.Value) value.Field {
	return value.Field{Number: number, Values: values}
}

// unhex answers the bytes of a text like "08 96 01".
func unhex(text string) []byte {
	b, err := hex.DecodeString(strings.ReplaceAll(text, " ", ""))
	if err != nil {
		panic(err)
	}
	return b
}

// check asks all that the package promises of bytes that are the value want.
func check(t *testing.T, s api.Schema, number int, b []byte, want value.Message) {
	t.Helper()
	v, err := Decode(s, number, b)
	if err != api.OK || !value.Same(v, want) {
		t.Errorf("Decode(%d, %.40x) = %.400s, %d, want %.400s", number, b, show(v), err, show(want))
		return
	}
	checkKept(t, s, number, v)
}

// checkKept asks, of what was decoded, what P11.2 says.
func checkKept(t *testing.T, s api.Schema, number int, v value.Value) {
	t.Helper()
	normal, err := value.Normal(s, number, v)
	if !value.Fits(s, number, v) || err != api.OK || !value.Same(normal, v) {
		t.Errorf("%.400s doesn't fit, or isn't normal", show(v))
	}
	b, err := encode.Encode(s, number, v)
	if err == api.ErrLong {
		return
	}
	again, refused := Decode(s, number, b)
	if err != api.OK || refused != api.OK || !value.Same(again, v) {
		t.Errorf("%.400s, encoded again as %.40x (%d), is decoded as %.400s, %d", show(v), b, err, show(again), refused)
	}
}

// checkHex asks the same of bytes that are a Message of All.
func checkHex(t *testing.T, b string, want value.Message) {
	t.Helper()
	check(t, declaredSchema(), 0, unhex(b), want)
}

// checkRefused asks what is answered if bytes are no value.
func checkRefused(t *testing.T, s api.Schema, number int, b []byte, want api.Errno) {
	t.Helper()
	if v, err := Decode(s, number, b); v != nil || err != want {
		t.Errorf("Decode(%d, %.40x) = %.400s, %d, want %d", number, b, show(v), err, want)
	}
}

// wrongHex asks the same of bytes that are no Message of All.
func wrongHex(t *testing.T, b string, want api.Errno) {
	t.Helper()
	checkRefused(t, declaredSchema(), 0, unhex(b), want)
}

// The chapter's examples.
func TestExamples(t *testing.T) {
	check(t, compiled("message A { int64 x = 1; }"), 0, unhex("08 01 08 02"), all(field(1, value.Int(2))))
	check(t, compiled("message A { repeated int64 x = 1; }"), 0, unhex("0a 01 05 08 06"), all(field(1, value.Int(5), value.Int(6))))
}

// ofKind are, by Kind, values and the bytes of each: of the Kinds Text, Bytes and
// Message with their length ahead. The first one is that by default.
func ofKind(kind int) ([]value.Value, []string) {
	const ff9 = "ff ff ff ff ff ff ff ff ff "
	switch kind {
	case api.Int64:
		return []value.Value{value.Int(0), value.Int(1), value.Int(127), value.Int(128), value.Int(150), value.Int(-1), value.Int(-2), value.Int(math.MaxInt64), value.Int(math.MinInt64)},
			[]string{"00", "01", "7f", "80 01", "96 01", ff9 + "01", "fe ff ff ff ff ff ff ff ff 01", "ff ff ff ff ff ff ff ff 7f", "80 80 80 80 80 80 80 80 80 01"}
	case api.Uint64:
		return []value.Value{value.Uint(0), value.Uint(1), value.Uint(300), value.Uint(1 << 63), value.Uint(math.MaxUint64)},
			[]string{"00", "01", "ac 02", "80 80 80 80 80 80 80 80 80 01", ff9 + "01"}
	case api.Sint64:
		return []value.Value{value.Int(0), value.Int(-1), value.Int(1), value.Int(-2), value.Int(-64), value.Int(64), value.Int(math.MaxInt64), value.Int(math.MinInt64)},
			[]string{"00", "01", "02", "03", "7f", "80 01", "fe ff ff ff ff ff ff ff ff 01", ff9 + "01"}
	case api.Bool:
		return []value.Value{value.Bool(false), value.Bool(true), value.Bool(true), value.Bool(true), value.Bool(true)},
			[]string{"00", "01", "02", "80 80 80 80 10", ff9 + "01"}
	case api.Text:
		return []value.Value{value.Text(""), value.Text("ab"), value.Text("\x00"), value.Text("λ"), value.Text("\ufffd"), value.Text(strings.Repeat("a", 128))},
			[]string{"00", "02 61 62", "01 00", "02 ce bb", "03 ef bf bd", "80 01" + strings.Repeat("61", 128)}
	case api.Bytes:
		return []value.Value{value.Bytes(""), value.Bytes("ab"), value.Bytes("\x00"), value.Bytes("\xff\xfe"), value.Bytes(strings.Repeat("\xff", 127))},
			[]string{"00", "02 61 62", "01 00", "02 ff fe", "7f" + strings.Repeat("ff", 127)}
	case api.Fixed32:
		return []value.Value{value.Uint(0), value.Uint(1), value.Uint(0x12345678), value.Uint(math.MaxUint32)},
			[]string{"00 00 00 00", "01 00 00 00", "78 56 34 12", "ff ff ff ff"}
	case api.Fixed64:
		return []value.Value{value.Uint(0), value.Uint(1), value.Uint(0x123456789abcdef0), value.Uint(math.MaxUint64)},
			[]string{"00 00 00 00 00 00 00 00", "01 00 00 00 00 00 00 00", "f0 de bc 9a 78 56 34 12", "ff ff ff ff ff ff ff ff"}
	case api.Enum:
		return []value.Value{value.Enum(0), value.Enum(1), value.Enum(7), value.Enum(-1), value.Enum(-1), value.Enum(math.MaxInt32), value.Enum(math.MinInt32), value.Enum(math.MinInt32), value.Enum(5)},
			[]string{"00", "01", "07", ff9 + "01", "ff ff ff ff 0f", "ff ff ff ff 07", "80 80 80 80 f8 ff ff ff ff 01", "80 80 80 80 08", "85 80 80 80 30"}
	}
	return []value.Value{part(), part(field(1, value.Int(-1))), part(field(3, value.Message{Type: 2})), with(part(), "30 01")},
		[]string{"00", "02 08 01", "02 1a 00", "02 30 01"}
}

// keys are the first bytes of the fields of each Kind: of one, of one value of a
// repeated one, and of a packed one.
func keys(kind int) (string, string, string) {
	return []string{"", "08", "10", "18", "20", "2a", "32", "3d", "41", "48", "52"}[kind],
		[]string{"", "a8 01", "b0 01", "b8 01", "c0 01", "ca 01", "d2 01", "dd 01", "e1 01", "e8 01", "f2 01"}[kind],
		[]string{"", "aa 01", "b2 01", "ba 01", "c2 01", "", "", "da 01", "e2 01", "ea 01", ""}[kind]
}

// length answers, as hex, how many bytes a text of hex has.
func length(text string) string {
	n := len(unhex(text))
	if n < 128 {
		return hex.EncodeToString([]byte{byte(n)})
	}
	return hex.EncodeToString([]byte{byte(n) | 0x80, byte(n >> 7)})
}

// P11.1: each Kind in a field that isn't repeated, once and several times.
func TestKinds(t *testing.T) {
	for kind := api.Int64; kind < api.Message; kind++ {
		key, _, _ := keys(kind)
		values, contents := ofKind(kind)
		for i, v := range values {
			want := all(field(kind, v))
			if i == 0 {
				want = all()
			}
			checkHex(t, key+contents[i], want)
			for k := range values {
				checkHex(t, key+contents[k]+key+contents[i], want)
				checkHex(t, key+contents[i]+key+contents[k]+"58 00"+key+contents[i], with(want, "58 00"))
			}
		}
	}
	values, contents := ofKind(api.Message)
	for i, v := range values {
		checkHex(t, "52"+contents[i], all(field(10, v)))
	}
}

// P11.1: each Kind in a repeated field: one by one, packed, and both.
func TestRepeatedKinds(t *testing.T) {
	for kind := api.Int64; kind <= api.Message; kind++ {
		_, key, packKey := keys(kind)
		values, contents := ofKind(kind)
		list := func(at ...int) {
			t.Helper()
			var chosen []value.Value
			single, pack, mixed, ends := "", "", "", ""
			for n, i := range at {
				chosen = append(chosen, values[i])
				single += key + contents[i]
				pack += contents[i]
				if n%2 == 0 {
					mixed += packKey + length(contents[i]) + contents[i]
				} else {
					mixed += key + contents[i] + packKey + "00"
				}
				if n == 0 || n == len(at)-1 {
					ends += key + contents[i]
				} else {
					ends += packKey + length(contents[i]) + contents[i]
				}
			}
			want := all(field(20+kind, chosen...))
			checkHex(t, single, want)
			if packKey == "" {
				return
			}
			checkHex(t, packKey+length(pack)+pack, want)
			checkHex(t, mixed, want)
			checkHex(t, ends, want)
			twice := all(field(20+kind, slices.Concat(chosen, chosen)...))
			checkHex(t, packKey+length(pack)+pack+single, twice)
			checkHex(t, single+packKey+"00"+packKey+length(pack)+pack, twice)
		}
		var rising []int
		for i := range values {
			list(i)
			list(i, i)
			list(0, i, 0)
			list(i, 0, 1)
			rising = append(rising, i)
		}
		list(rising...)
		slices.Reverse(rising)
		list(rising...)
		list(slices.Repeat([]int{1}, 100)...)
	}
}

// P11.1: packed ones without values.
func TestNoValues(t *testing.T) {
	for kind := api.Int64; kind <= api.Message; kind++ {
		_, key, packKey := keys(kind)
		values, contents := ofKind(kind)
		if packKey == "" {
			// Of what isn't packed, no bytes are a value.
			checkHex(t, key+"00", all(field(20+kind, values[0])))
			continue
		}
		checkHex(t, packKey+"00", all())
		checkHex(t, packKey+"80 00"+packKey+"00", all())
		checkHex(t, packKey+"00"+key+contents[0]+packKey+"00", all(field(20+kind, values[0])))
		checkHex(t, "08 01"+packKey+"00 58 00", with(all(field(1, value.Int(1))), "58 00"))
		checkHex(t, "52 02 2a 00", all(field(10, part())))
	}
}

// P11.1: one by one, as hand-written bytes.
func TestWritten(t *testing.T) {
	checkHex(t, "", all())
	checkHex(t, "aa 01 0d 03 ff ff ff ff ff ff ff ff ff 01 8e 02", all(field(21, value.Int(3), value.Int(-1), value.Int(270))))
	checkHex(t, "ba 01 02 03 04 b8 01 05", all(field(23, value.Int(-2), value.Int(2), value.Int(-3))))
	checkHex(t, "c2 01 03 05 00 01", all(field(24, value.Bool(true), value.Bool(false), value.Bool(true))))
	checkHex(t, "ca 01 00 ca 01 01 61 ca 01 00", all(field(25, value.Text(""), value.Text("a"), value.Text(""))))
	checkHex(t, "da 01 08 01 00 00 00 00 00 00 00 dd 01 02 00 00 00", all(field(27, value.Uint(1), value.Uint(0), value.Uint(2))))
	checkHex(t, "e1 01 00 00 00 00 00 00 00 80 e2 01 08 00 00 00 00 00 00 00 01", all(field(28, value.Uint(1<<63), value.Uint(1<<56))))
	checkHex(t, "f2 01 00 f2 01 02 08 02 f2 01 00", all(field(30, part(), part(field(1, value.Int(1))), part())))
	// The fields rise, however they come; a repeated one's values stay in order.
	checkHex(t, "aa 01 01 05 48 02 a8 01 04 08 03 aa 01 01 03", all(field(1, value.Int(3)), field(9, value.Enum(2)), field(21, value.Int(5), value.Int(4), value.Int(3))))
	check(t, declaredSchema(), 1, unhex("22 01 61 08 01"), part(field(1, value.Int(-1)), field(4, value.Text("a"))))
	check(t, declaredSchema(), 2, nil, value.Message{Type: 2})
	check(t, declaredSchema(), 2, unhex("08 01"), value.Message{Type: 2, Unknown: "\x08\x01"})
}

// P11.1: numbers of fields that need more bytes.
func TestFarNumbers(t *testing.T) {
	far := func(b string, fields ...value.Field) {
		t.Helper()
		check(t, declaredSchema(), 3, unhex(b), value.Message{Type: 3, Fields: fields})
	}
	yes := value.Bool(true)
	far("78 01", field(15, yes))
	far("80 01 01", field(16, yes))
	far("f8 7f 01", field(2047, yes))
	far("80 80 01 01", field(2048, yes))
	far("ba a3 09 01 61", field(18999, value.Text("a")))
	far("f8 ff ff ff 0f 01 fa ff ff ff 0f 02 01 00", field(api.MaxField, yes, yes, value.Bool(false)))
	far("fa ff ff ff 0f 01 01 80 80 01 01 f8 7f 01 80 01 01 78 01", field(15, yes), field(16, yes), field(2047, yes), field(2048, yes), field(api.MaxField, yes))
}

// P11.1: a field that isn't repeated has the last one's value.
func TestLastOne(t *testing.T) {
	checkHex(t, "08 01 08 02", all(field(1, value.Int(2))))
	checkHex(t, "08 01 08 00", all())
	checkHex(t, "08 01 08 80 00", all())
	checkHex(t, "08 00 08 01", all(field(1, value.Int(1))))
	checkHex(t, "08 01 10 05 08 02 10 00 08 03", all(field(1, value.Int(3))))
	checkHex(t, "2a 01 61 2a 00", all())
	checkHex(t, "32 01 ff 32 00", all())
	checkHex(t, "2a 02 61 62 2a 01 63", all(field(5, value.Text("c"))))
	checkHex(t, "3d 01 00 00 00 3d 00 00 00 00", all())
	checkHex(t, "41 00 00 00 00 00 00 00 01 41 00 00 00 00 00 00 00 00", all())
	checkHex(t, "20 01 20 00", all())
	checkHex(t, "48 01 48 80 80 80 80 10", all())
	// One of another type isn't known: it doesn't take the place of the last one.
	checkHex(t, "08 01 0a 01 05", with(all(field(1, value.Int(1))), "0a 01 05"))
	checkHex(t, "08 01 0d 00 00 00 00 08 02 09 01 02 03 04 05 06 07 08", with(all(field(1, value.Int(2))), "0d 00 00 00 00 09 01 02 03 04 05 06 07 08"))
	// Only the last one is asked whether it is valid.
	checkHex(t, "2a 01 ff 2a 01 61", all(field(5, value.Text("a"))))
	checkHex(t, "2a 01 ff 2a 02 c3 28 2a 00", all())
	wrongHex(t, "2a 01 61 2a 01 ff", api.ErrText)
	// What lies in two texts is no text's.
	wrongHex(t, "2a 01 ce 2a 01 bb", api.ErrText)
}

// P11.1: of a Message that isn't repeated all fields' bytes are read, one behind
// the other.
func TestJoined(t *testing.T) {
	one, text := field(1, value.Int(1)), field(4, value.Text("a"))
	checkHex(t, "52 00 52 00", all(field(10, part())))
	checkHex(t, "52 02 08 02 52 03 22 01 61", all(field(10, part(one, text))))
	checkHex(t, "52 03 22 01 61 58 00 52 02 08 02", with(all(field(10, part(one, text))), "58 00"))
	checkHex(t, "52 02 08 04 52 02 08 02", all(field(10, part(one))))
	checkHex(t, "52 02 08 04 52 02 08 00", all(field(10, part())))
	checkHex(t, "52 02 08 02 52 00", all(field(10, part(one))))
	checkHex(t, "52 02 12 00 52 04 12 02 08 01", all(field(10, part(field(2, all(), all(field(1, value.Int(1))))))))
	checkHex(t, "52 02 1a 00 52 02 1a 00", all(field(10, part(field(3, value.Message{Type: 2})))))
	checkHex(t, "52 04 1a 02 08 01 52 04 1a 02 08 02", all(field(10, part(field(3, value.Message{Type: 2, Unknown: "\x08\x01\x08\x02"})))))
	checkHex(t, "52 02 30 01 52 02 08 02 52 02 30 02", all(field(10, with(part(one), "30 01 30 02"))))
	checkHex(t, "52 03 2a 01 01 52 02 28 00", all(field(10, part(field(5, value.Bool(true), value.Bool(false))))))
	// A field may lie in several.
	checkHex(t, "52 01 08 52 01 02", all(field(10, part(one))))
	checkHex(t, "52 02 22 01 52 01 61 52 00", all(field(10, part(text))))
	checkHex(t, "52 03 22 02 ce 52 01 bb", all(field(10, part(field(4, value.Text("λ"))))))
	checkHex(t, "52 01 22 0a 00 52 01 00 52 02 08 02", with(all(field(10, part(one))), "0a 00"))
	wrongHex(t, "52 01 08 52 00", api.ErrForm)
	wrongHex(t, "52 02 08 02 52 01 08", api.ErrForm)
	// Those of a repeated one are read one by one.
	wrongHex(t, "f2 01 01 08 f2 01 01 02", api.ErrForm)
	checkHex(t, "f2 01 02 08 02 f2 01 03 22 01 61", all(field(30, part(one), part(text))))
	// A text in one that comes ahead isn't the last one.
	checkHex(t, "52 03 22 01 ff 52 03 22 01 61", all(field(10, part(text))))
	wrongHex(t, "52 03 22 01 61 52 03 22 01 ff", api.ErrText)
	wrongHex(t, "f2 01 03 22 01 ff f2 01 03 22 01 61", api.ErrText)
}

// P11.1: a varint needn't be the shortest, be it a number, a length, or what stands
// ahead of a field.
func TestLongVarints(t *testing.T) {
	checkHex(t, "08 81 00", all(field(1, value.Int(1))))
	checkHex(t, "08 81 80 80 80 80 80 80 80 80 00", all(field(1, value.Int(1))))
	checkHex(t, "10 ac 82 00", all(field(2, value.Uint(300))))
	checkHex(t, "18 83 00", all(field(3, value.Int(-2))))
	checkHex(t, "88 00 01", all(field(1, value.Int(1))))
	checkHex(t, "88 80 80 00 01", all(field(1, value.Int(1))))
	checkHex(t, "2a 81 00 61", all(field(5, value.Text("a"))))
	checkHex(t, "aa 01 83 00 81 00 02", all(field(21, value.Int(1), value.Int(2))))
	checkHex(t, "ba 01 0b 83 80 80 80 80 80 80 80 80 00 02", all(field(23, value.Int(-2), value.Int(1))))
	checkHex(t, "d2 80 00 83 00 88 00 08", all(field(10, part(field(1, value.Int(4))))))
	checkHex(t, "20 80 80 00", all())
	checkHex(t, "20 80 02", all(field(4, value.Bool(true))))
	checkHex(t, "20 80 80 80 80 80 80 80 80 80 01", all(field(4, value.Bool(true))))
	checkHex(t, "48 81 80 80 80 10", all(field(9, value.Enum(1))))
	checkHex(t, "48 80 80 80 80 10", all())
	checkHex(t, "48 ff ff ff ff 1f", all(field(9, value.Enum(-1))))
	checkHex(t, "48 ff ff ff ff ff ff ff ff 7f", all(field(9, value.Enum(-1))))
	checkHex(t, "ea 01 0a 80 80 80 80 10 80 80 80 80 08", all(field(29, value.Enum(0), value.Enum(math.MinInt32))))
	checkHex(t, "08 ff ff ff ff 1f", all(field(1, value.Int(1<<33-1))))
}

// P11.1: fields that aren't known, by their number or by their type, stand in
// Unknown as they came, in each Message.
func TestUnknown(t *testing.T) {
	s := declaredSchema()
	one := field(1, value.Int(1))
	for _, b := range []string{
		"58 01", "58 81 00", "d8 00 01", "5a 02 61 62", "5a 80 00", "5d 01 02 03 04", "59 01 02 03 04 05 06 07 08", "f8 ff ff ff 0f 05", "f8 01 00", "58 01 58 02 58 01",
		// A known number, with a type that isn't the Kind's.
		"0a 01 05", "0d 01 02 03 04", "09 01 02 03 04 05 06 07 08", "12 00", "1a 00", "22 00", "28 01", "30 01", "3a 04 01 02 03 04", "38 01", "39 01 02 03 04 05 06 07 08",
		"42 08 01 02 03 04 05 06 07 08", "45 01 02 03 04", "40 01", "4a 01 01", "50 01", "55 01 02 03 04", "51 01 02 03 04 05 06 07 08",
		"ad 01 01 02 03 04", "a9 01 01 02 03 04 05 06 07 08", "c8 01 01", "d0 01 01", "d8 01 01", "e0 01 01", "d9 01 01 02 03 04 05 06 07 08", "e5 01 01 02 03 04", "ed 01 01 02 03 04", "f0 01 01",
	} {
		own := length(b)
		check(t, s, 0, unhex(b), with(all(), b))
		check(t, s, 0, unhex("08 01"+b), with(all(one), b))
		check(t, s, 0, unhex(b+"08 01"), with(all(one), b))
		check(t, s, 0, unhex(b+"aa 01 01 05"+b+"08 01"+b+"a8 01 06"), with(all(one, field(21, value.Int(5), value.Int(6))), b+b+b))
		check(t, s, 1, unhex("12"+own+b), part(field(2, with(all(), b))))
		check(t, s, 1, unhex("12 00 12"+own+b+"08 02 30 00"), with(part(one, field(2, all(), with(all(), b))), "30 00"))
		check(t, s, 2, unhex("0a"+own+b), value.Message{Type: 2, Unknown: string(unhex("0a" + own + b))})
	}
	checkHex(t, "58 04 52 04 30 02 08 02 08 01 f2 01 02 30 03 58 05 f2 01 00 52 02 30 06",
		with(all(one, field(10, with(part(one), "30 02 30 06")), field(30, with(part(), "30 03"), part())), "58 04 58 05"))
	// Nothing is asked of what isn't known, but that it is a field.
	checkHex(t, "5a 01 ff", with(all(), "5a 01 ff"))
	checkHex(t, "5a 05 5a 04 5a 03 08", with(all(), "5a 05 5a 04 5a 03 08"))
}

// deep answers bytes in which that many messages lie, All and Part by turns, with
// what stands ahead of each one, and the bytes of the innermost one.
func deep(count int, ahead [2]string, innermost string) []byte {
	b := unhex(innermost)
	for n := count - 1; n >= 1; n-- {
		key := unhex(ahead[(n+1)%2])
		b = append(append(key, unhex(length(hex.EncodeToString(b)))...), b...)
	}
	return b
}

// nested answers the Message of that many, All and Part by turns, the innermost one
// with these fields.
func nested(count, number int, fields ...value.Field) value.Message {
	m := value.Message{Type: (count + 1) % 2, Fields: fields}
	for n := count - 1; n >= 1; n-- {
		if n%2 == 1 {
			m = all(field(number, m))
		} else {
			m = part(field(2, m))
		}
	}
	return m
}

// P11.1: Messages lie at most MaxDepth deep.
func TestDepth(t *testing.T) {
	s := declaredSchema()
	for number, key := range map[int]string{10: "52", 30: "f2 01"} {
		ahead := [2]string{key, "12"}
		for count := 1; count <= api.MaxDepth; count++ {
			check(t, s, 0, deep(count, ahead, ""), nested(count, number))
		}
		check(t, s, 0, deep(api.MaxDepth, ahead, "08 02"), nested(api.MaxDepth, number, field(1, value.Int(1))))
		for _, innermost := range []string{"", "08 02", "08", "2a 01 ff"} {
			checkRefused(t, s, 0, deep(api.MaxDepth+1, ahead, innermost), api.ErrDeep)
			checkRefused(t, s, 0, deep(api.MaxDepth+2, ahead, innermost), api.ErrDeep)
			checkRefused(t, s, 0, deep(500, ahead, innermost), api.ErrDeep)
		}
	}
	// From another message on, and into one that has no fields.
	check(t, s, 1, deep(16, [2]string{"12", "52"}, ""), part(field(2, nested(15, 10))))
	checkRefused(t, s, 1, deep(17, [2]string{"12", "52"}, ""), api.ErrDeep)
	checkRefused(t, s, 0, deep(16, [2]string{"52", "12"}, "1a 00"), api.ErrDeep)
	// What isn't known doesn't lie in anything.
	strange := hex.EncodeToString(deep(18, [2]string{"5a", "5a"}, ""))
	checkHex(t, strange, with(all(), strange))
}

// P11.1: just MaxSize bytes, and one more.
func TestMaxSize(t *testing.T) {
	s := declaredSchema()
	text := strings.Repeat("a", 4093)
	check(t, s, 0, append(unhex("2a fd 1f"), text...), all(field(5, value.Text(text))))
	checkRefused(t, s, 0, append(unhex("2a fe 1f"), text+"a"...), api.ErrLong)
	twos := strings.Repeat("\x08\x01", 2048)
	check(t, s, 0, []byte(twos), all(field(1, value.Int(1))))
	check(t, s, 2, []byte(twos), value.Message{Type: 2, Unknown: twos})
	checkRefused(t, s, 0, []byte(twos+"\x08\x01"), api.ErrLong)
	checkRefused(t, s, 0, []byte(twos[3:]+"\x08\x81\x00\x08"), api.ErrLong)
	values := slices.Repeat([]value.Value{value.Int(1)}, 4092)
	check(t, s, 0, append(unhex("aa 01 fc 1f"), strings.Repeat("\x01", 4092)...), all(field(21, values...)))
	checkRefused(t, s, 0, append(unhex("aa 01 fd 1f"), strings.Repeat("\x01", 4093)...), api.ErrLong)
	// Too long ahead of all that is wrong in it.
	checkRefused(t, s, 0, bytes.Repeat([]byte{0xff}, 4097), api.ErrLong)
	checkRefused(t, s, 0, bytes.Repeat([]byte{0xff}, 4096), api.ErrForm)
	checkRefused(t, s, 0, make([]byte, 4097), api.ErrLong)
	checkRefused(t, s, 0, make([]byte, 1<<20), api.ErrLong)
	checkRefused(t, s, 0, append(deep(17, [2]string{"52", "12"}, ""), make([]byte, 4096)...), api.ErrLong)
	// What has more than MaxSize bytes when it is encoded again is decoded, too.
	check(t, s, 0, append(unhex("ea 01 b9 1f"), strings.Repeat("\xff\xff\xff\xff\x0f", 805)...), all(field(29, slices.Repeat([]value.Value{value.Enum(-1)}, 805)...)))
	room := append(unhex("2a fb 1f"), text[:4091]...)
	check(t, s, 0, append(room, 0x58, 0x01), with(all(field(5, value.Text(text[:4091]))), "58 01"))
	checkRefused(t, s, 0, append(room, 0x58, 0x81, 0x00), api.ErrLong)
}

// P11.1: a schema that isn't formed, and a message that isn't there.
func TestNoSuchMessage(t *testing.T) {
	s := declaredSchema()
	for _, b := range [][]byte{nil, unhex("08 01"), unhex("08"), make([]byte, 4097)} {
		for _, number := range []int{-1, 4, 64, math.MaxInt, math.MinInt} {
			checkRefused(t, s, number, b, api.ErrArg)
			checkRefused(t, api.Schema{}, number, b, api.ErrArg)
		}
		checkRefused(t, api.Schema{}, 0, b, api.ErrArg)
	}
	fields := func(list ...api.FieldDef) api.Schema {
		return api.Schema{Messages: []api.MessageDef{{Name: "A", Fields: list}}}
	}
	x := api.FieldDef{Number: 1, Name: "x", Kind: api.Int64}
	y := api.FieldDef{Number: 2, Name: "y", Kind: api.Int64}
	check(t, fields(x, y), 0, unhex("10 02 08 01"), all(field(1, value.Int(1)), field(2, value.Int(2))))
	for _, s := range []api.Schema{
		fields(y, x), fields(x, x), fields(x, api.FieldDef{Number: 2, Name: "x", Kind: api.Int64}), fields(x, api.FieldDef{Number: 2, Name: "y"}), fields(x, api.FieldDef{Number: 2, Name: "y", Kind: 11}),
		fields(x, api.FieldDef{Number: 2, Name: "y", Kind: api.Enum}), fields(x, api.FieldDef{Number: 2, Name: "y", Kind: api.Message}), fields(x, api.FieldDef{Number: 2, Name: "y", Kind: api.Message, Type: 1, Repeated: true}),
		fields(x, api.FieldDef{Number: 2, Name: "y", Kind: api.Message, Type: -1, Repeated: true}), fields(api.FieldDef{Number: 0, Name: "x", Kind: api.Int64}),
		fields(x, api.FieldDef{Number: 19000, Name: "y", Kind: api.Int64}), fields(x, api.FieldDef{Number: api.MaxField + 1, Name: "y", Kind: api.Int64}), fields(api.FieldDef{Number: 1, Name: "x", Kind: api.Int64, Type: 1}), fields(api.FieldDef{Number: 1, Name: "1", Kind: api.Int64}),
		{Messages: []api.MessageDef{{Name: "A", Fields: []api.FieldDef{x}}, {Name: "A"}}}, {Messages: []api.MessageDef{{Fields: []api.FieldDef{x}}}},
		{Messages: []api.MessageDef{{Name: "A", Fields: []api.FieldDef{x}}}, Enums: []api.EnumDef{{Name: "E"}}}, {Messages: []api.MessageDef{{Name: "A", Fields: []api.FieldDef{x}}}, Methods: []api.MethodDef{{ID: 2, Service: "S", Name: "m"}}},
	} {
		for _, b := range [][]byte{nil, unhex("08 01"), unhex("08"), unhex("12 01 08"), make([]byte, 4097)} {
			checkRefused(t, s, 0, b, api.ErrArg)
		}
	}
}

// P11.1: bytes that aren't fields, alone, behind others, and in Messages.
func TestNoFields(t *testing.T) {
	s := declaredSchema()
	for _, b := range []string{
		"08", "80", "ff", "08 80", "08 ff ff ff ff ff ff ff ff ff 02", "08 ff ff ff ff ff ff ff ff ff 80 00", "00", "00 00", "02 00", "05 00 00 00 00",
		"0b", "0c", "0e 00", "0f 00", "5b 5c", "2a", "2a 01", "2a 02 61", "2a 80", "2a ff ff ff ff ff ff ff ff ff 01", "2a ff ff ff ff ff ff ff ff 7f", "3d", "3d 01 02 03", "41 01 02 03 04 05 06 07",
		"5a 01", "5d 01 02 03", "59 01 02 03 04 05 06 07", "58", "80 80 80 80 10 00", "88 80 80 80 80 80 80 80 80 02 01", "aa 01", "aa 01 02 01", "52", "52 02 08",
	} {
		own := length(b)
		wrongHex(t, b, api.ErrForm)
		wrongHex(t, "08 01"+b, api.ErrForm)
		wrongHex(t, "5a 00"+b, api.ErrForm)
		checkRefused(t, s, 1, unhex("12"+own+b), api.ErrForm)
		checkRefused(t, s, 1, unhex("12 00 08 01 12"+own+b), api.ErrForm)
		checkRefused(t, s, 2, unhex(b), api.ErrForm)
		// No field is read ahead of the message's bytes being fields.
		wrongHex(t, "2a 01 ff"+b, api.ErrForm)
		wrongHex(t, hex.EncodeToString(deep(17, [2]string{"52", "12"}, ""))+b, api.ErrForm)
		// As bytes of a field that is no Message they are as good as others.
		checkHex(t, "32"+own+b, all(field(6, value.Bytes(unhex(b)))))
	}
}

// P11.1: packed ones whose bytes aren't just values.
func TestWrongPacks(t *testing.T) {
	for _, kind := range []int{api.Int64, api.Uint64, api.Sint64, api.Bool, api.Enum} {
		_, key, packKey := keys(kind)
		for _, pack := range []string{"80", "01 80", "00 ff ff ff ff ff ff ff ff ff", "ff ff ff ff ff ff ff ff ff 02", "01 ff ff ff ff ff ff ff ff ff ff 01", "80 80 80 80 80 80 80 80 80 80 00"} {
			wrongHex(t, packKey+length(pack)+pack, api.ErrForm)
			wrongHex(t, packKey+"01 01"+packKey+length(pack)+pack+key+"01", api.ErrForm)
			wrongHex(t, key+"01"+packKey+length(pack)+pack+packKey+"00", api.ErrForm)
		}
		// A value doesn't lie in several fields.
		wrongHex(t, packKey+"01 80"+packKey+"01 00", api.ErrForm)
	}
	for kind, size := range map[int]int{api.Fixed32: 4, api.Fixed64: 8} {
		_, key, packKey := keys(kind)
		for n := range 3*size + 1 {
			pack := strings.Repeat("01", n)
			if n%size != 0 {
				wrongHex(t, packKey+length(pack)+pack, api.ErrForm)
				wrongHex(t, key+strings.Repeat("02", size)+packKey+length(pack)+pack+packKey+"00", api.ErrForm)
				// What is missing in one isn't taken from the next one.
				rest := strings.Repeat("01", 3*size-n)
				wrongHex(t, packKey+length(pack)+pack+packKey+length(rest)+rest, api.ErrForm)
			}
		}
	}
	wrongHex(t, "52 03 2a 01 80", api.ErrForm)
	checkHex(t, "52 03 2a 01 02", all(field(10, part(field(5, value.Bool(true))))))
}

// P11.1: texts that aren't valid.
func TestTexts(t *testing.T) {
	for _, text := range []string{"ff", "80", "c3", "c3 28", "61 ff 61", "c0 80", "ed a0 80", "f4 90 80 80", "e2 82", "f0 9f 98", "61 62 ce"} {
		own := length(text) + text
		wrongHex(t, "2a"+own, api.ErrText)
		wrongHex(t, "2a 01 61 2a"+own, api.ErrText)
		wrongHex(t, "08 01 2a"+own+"10 01 58 00", api.ErrText)
		checkHex(t, "2a"+own+"2a 01 61", all(field(5, value.Text("a"))))
		checkHex(t, "2a"+own+"08 01 2a 00", all(field(1, value.Int(1))))
		// Of a repeated one all are asked.
		wrongHex(t, "ca 01"+own, api.ErrText)
		wrongHex(t, "ca 01"+own+"ca 01 01 61", api.ErrText)
		wrongHex(t, "ca 01 00 ca 01 01 61 ca 01"+own, api.ErrText)
		inner := "22" + own
		wrongHex(t, "52"+length(inner)+inner, api.ErrText)
		wrongHex(t, "f2 01"+length(inner)+inner+"f2 01 00", api.ErrText)
		// Bytes may be any.
		checkHex(t, "32"+own+"d2 01"+own, all(field(6, value.Bytes(unhex(text))), field(26, value.Bytes(unhex(text)))))
	}
	for _, text := range []string{"", "a", "\x00", "\x7f", "λ", "\u07ff", "\u0800", "\ud7ff", "\ue000", "\ufffd", "\uffff", "\U00010000", "\U0010ffff", "😀 a"} {
		own := hex.EncodeToString([]byte{byte(len(text))}) + hex.EncodeToString([]byte(text))
		checkHex(t, "ca 01"+own, all(field(25, value.Text(text))))
		if text != "" {
			checkHex(t, "2a"+own, all(field(5, value.Text(text))))
		}
	}
}

// R6: the order of the errors.
func TestOrder(t *testing.T) {
	const (
		text     = "2a 01 ff"
		pack     = "aa 01 01 80"
		texts    = "ca 01 01 ff"
		form     = "52 01 08"
		forms    = "f2 01 01 08"
		inText   = "52 03 22 01 ff"
		inTexts  = "f2 01 03 22 01 ff"
		cutOff   = "08"
		fixed    = "da 01 01 00"
		lastPack = "ea 01 01 80"
	)
	tooDeep := hex.EncodeToString(deep(17, [2]string{"52", "12"}, ""))
	tooDeepLater := hex.EncodeToString(deep(17, [2]string{"f2 01", "12"}, ""))
	// The fields' numbers count, not how they come.
	for _, c := range []struct {
		b    string
		want api.Errno
	}{
		{text + pack, api.ErrText}, {pack + text, api.ErrText}, {pack + texts, api.ErrForm}, {texts + pack, api.ErrForm}, {texts + fixed, api.ErrText}, {fixed + texts, api.ErrText},
		{text + form, api.ErrText}, {form + text, api.ErrText}, {form + texts, api.ErrForm}, {texts + form, api.ErrForm}, {texts + forms, api.ErrText}, {forms + texts, api.ErrText},
		{tooDeep + text, api.ErrText}, {tooDeep + pack, api.ErrDeep}, {pack + tooDeep, api.ErrDeep}, {texts + tooDeep, api.ErrDeep}, {tooDeepLater + texts, api.ErrText}, {tooDeepLater + lastPack, api.ErrForm},
		{inText + text + pack, api.ErrText}, {inText + pack, api.ErrText}, {pack + inText, api.ErrText}, {inTexts + pack, api.ErrForm}, {inTexts + lastPack, api.ErrForm},
		// Those of one field, in order.
		{inTexts + forms, api.ErrText}, {forms + inTexts, api.ErrForm}, {tooDeepLater + forms, api.ErrDeep}, {forms + tooDeepLater, api.ErrForm}, {inTexts + tooDeepLater, api.ErrText}, {"f2 01 00" + tooDeepLater + inTexts, api.ErrDeep},
		{"ca 01 01 61" + texts + pack, api.ErrForm}, {"aa 01 01 05" + pack + text, api.ErrText},
		// A message's own bytes ahead of all in it; those of one in another one only then.
		{text + cutOff, api.ErrForm}, {tooDeep + cutOff, api.ErrForm}, {inText + cutOff, api.ErrForm}, {"52 04 22 01 ff 08", api.ErrForm}, {"f2 01 04 22 01 ff 08", api.ErrForm}, {text + "52 04 22 01 ff 08", api.ErrText},
		// The fields of a Message in their order, too: All in Part.
		{"52 09 12 03 2a 01 ff 22 01 ff 08", api.ErrForm}, {"52 08 22 01 ff 12 03 2a 01 ff", api.ErrText}, {"52 09 22 01 ff 12 04 aa 01 01 80", api.ErrForm}, {"52 09 12 04 aa 01 01 80 22 01 ff", api.ErrForm},
		{"52 06 2a 01 80 22 01 ff", api.ErrText}, {"52 06 22 01 ff 2a 01 80", api.ErrText}, {"52 08 2a 01 80 12 03 2a 01 ff", api.ErrText},
		// A text that isn't the last one tells nothing.
		{text + "2a 00" + pack, api.ErrForm}, {text + "2a 00" + inText, api.ErrText}, {text + "2a 00", api.OK},
	} {
		if c.want == api.OK {
			checkHex(t, c.b, all())
		} else {
			wrongHex(t, c.b, c.want)
		}
	}
	// A schema and a message ahead of a length, that ahead of all else.
	long := append(unhex(text+cutOff), make([]byte, 4096)...)
	checkRefused(t, declaredSchema(), 0, long, api.ErrLong)
	checkRefused(t, declaredSchema(), 4, long, api.ErrArg)
	checkRefused(t, declaredSchema(), 4, unhex(text), api.ErrArg)
}

// P11.2, and of DOC.md's P3 decode's side: what was encoded is decoded as its
// normal value.
func TestThereAndBack(t *testing.T) {
	s := declaredSchema()
	for kind := api.Int64; kind <= api.Message; kind++ {
		values, _ := ofKind(kind)
		for _, v := range values {
			for _, m := range []value.Message{all(field(kind, v)), all(field(20+kind, v)), all(field(20+kind, v, values[0], v)), all(field(10, part(field(2, all(field(kind, v)), all(field(20+kind, values...)))))), with(all(field(kind, v)), "58 00")} {
				b, err := encode.Encode(s, 0, m)
				normal, refused := value.Normal(s, 0, m)
				if err != api.OK || refused != api.OK {
					t.Fatal(m, err, refused)
				}
				check(t, s, 0, b, value.Must(normal))
			}
		}
	}
}

// places answers where the memory of v's lists and texts is, from and to.
func places(v value.Value) [][2]uintptr {
	var out [][2]uintptr
	text := func(s string) {
		from := uintptr(unsafe.Pointer(unsafe.StringData(s)))
		out = append(out, [2]uintptr{from, from + uintptr(len(s))})
	}
	switch v := v.(type) {
	case value.Text:
		text(string(v))
	case value.Bytes:
		text(string(v))
	case value.Message:
		text(v.Unknown)
		from := uintptr(unsafe.Pointer(unsafe.SliceData(v.Fields)))
		out = append(out, [2]uintptr{from, from + uintptr(cap(v.Fields))*unsafe.Sizeof(value.Field{})})
		for _, f := range v.Fields {
			from := uintptr(unsafe.Pointer(unsafe.SliceData(f.Values)))
			out = append(out, [2]uintptr{from, from + uintptr(cap(f.Values))*unsafe.Sizeof(value.Value(nil))})
			for _, one := range f.Values {
				out = append(out, places(one)...)
			}
		}
	}
	return out
}

// R2 and R3: answers hang on the arguments alone, which are left as they are, spare
// room too, and are new memory.
func TestMemory(t *testing.T) {
	s := declaredSchema()
	given := unhex("58 01 2a 03 61 62 63 32 02 ff fe aa 01 02 01 02 52 05 22 03 61 62 63 52 02 30 01 f2 01 07 12 05 2a 03 78 79 7a ca 01 02 61 62 ca 01 02 61 62 5a 02 61 62")
	b := append(make([]byte, 0, 200), given...)
	spare := b[len(b):cap(b)]
	for i := range spare {
		spare[i] = 0xee
	}
	v, err := Decode(s, 0, b)
	if err != api.OK {
		t.Fatal(err)
	}
	if !bytes.Equal(b, given) || !bytes.Equal(spare, bytes.Repeat([]byte{0xee}, len(spare))) || !reflect.DeepEqual(s, declaredSchema()) {
		t.Error("an argument was changed")
	}
	from := uintptr(unsafe.Pointer(unsafe.SliceData(b)))
	list := append(places(v), [2]uintptr{from, from + uintptr(cap(b))})
	for i, x := range list {
		for _, y := range list[:i] {
			if x[0] < y[1] && y[0] < x[1] {
				t.Error("memory is shared")
			}
		}
	}
	want, _ := Decode(s, 0, given)
	clear(b)
	if !value.Same(v, want) {
		t.Error("what was handed in is kept")
	}
	// A second answer has nothing of the first one.
	m := value.Must(v)
	m.Fields[0].Values[0] = value.Int(77)
	clear(m.Fields[:cap(m.Fields)])
	again, err := Decode(s, 0, given)
	if err != api.OK || !value.Same(again, want) {
		t.Errorf("%s, then %s, %d", show(want), show(again), err)
	}
}

// R4: lists of no elements are nil or empty.
func TestNoElements(t *testing.T) {
	empty := api.Schema{Messages: []api.MessageDef{{Name: "A", Fields: []api.FieldDef{}}}, Enums: []api.EnumDef{}, Methods: []api.MethodDef{}}
	for _, b := range [][]byte{nil, {}} {
		check(t, declaredSchema(), 0, b, all())
		check(t, empty, 0, b, all())
		checkRefused(t, api.Schema{Messages: []api.MessageDef{}}, 0, b, api.ErrArg)
	}
}
