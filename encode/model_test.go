package encode

import (
	"encoding/binary"
	"fmt"
	"math"
	"math/rand"
	"slices"
	"strings"
	"testing"

	"courier/api"
	"courier/value"
)

// written answers the bytes of m, which fits, by the library's own ways of writing
// numbers: it goes through the fields of the schema, and leaves out what is as by
// default by itself.
func written(s api.Schema, m value.Message) []byte {
	var b []byte
	for _, def := range s.Messages[m.Type].Fields {
		at := slices.IndexFunc(m.Fields, func(f value.Field) bool { return f.Number == def.Number })
		if at < 0 {
			continue
		}
		var pack []byte
		for _, v := range m.Fields[at].Values {
			own, wireType := writtenValue(s, def.Kind, v)
			switch {
			case def.Repeated && wireType != 2:
				pack = append(pack, own...)
			case def.Repeated || def.Kind == api.Message || strings.Trim(string(own), "\x00") != "" || wireType == 2 && len(own) > 0:
				b = binary.AppendUvarint(b, uint64(def.Number)<<3|uint64(wireType))
				if wireType == 2 {
					b = binary.AppendUvarint(b, uint64(len(own)))
				}
				b = append(b, own...)
			}
		}
		if len(pack) > 0 {
			b = binary.AppendUvarint(b, uint64(def.Number)<<3|2)
			b = append(binary.AppendUvarint(b, uint64(len(pack))), pack...)
		}
	}
	return append(b, m.Unknown...)
}

// writtenValue answers v's bytes, and the type of a field that has v alone.
func writtenValue(s api.Schema, kind int, v value.Value) ([]byte, int) {
	switch kind {
	case api.Int64:
		return binary.AppendUvarint(nil, uint64(v.(value.Int))), 0
	case api.Uint64:
		return binary.AppendUvarint(nil, uint64(v.(value.Uint))), 0
	case api.Sint64:
		return binary.AppendVarint(nil, int64(v.(value.Int))), 0
	case api.Enum:
		return binary.AppendUvarint(nil, uint64(v.(value.Enum))), 0
	case api.Fixed32:
		return binary.LittleEndian.AppendUint32(nil, uint32(v.(value.Uint))), 5
	case api.Fixed64:
		return binary.LittleEndian.AppendUint64(nil, uint64(v.(value.Uint))), 1
	case api.Text:
		return []byte(v.(value.Text)), 2
	case api.Bytes:
		return []byte(v.(value.Bytes)), 2
	case api.Message:
		return written(s, v.(value.Message)), 2
	}
	if v.(value.Bool) {
		return []byte{1}, 0
	}
	return []byte{0}, 0
}

// readBack answers the value of which b are the bytes, and panics, if there is none:
// of DOC.md's P3, encode's side is that a value can be read back just as it was.
func readBack(s api.Schema, number int, b []byte) value.Message {
	m := value.Message{Type: number}
	for len(b) > 0 {
		key, size := binary.Uvarint(b)
		rest := b[size:]
		own, rest := cut(rest, int(key&7))
		at := slices.IndexFunc(s.Messages[number].Fields, func(f api.FieldDef) bool { return f.Number == int(key>>3) })
		if at < 0 || !value.Known(s.Messages[number], int(key>>3), int(key&7)) {
			// Nothing that is known stands behind what isn't.
			m.Unknown = string(b)
			break
		}
		b = rest
		def := s.Messages[number].Fields[at]
		if len(m.Fields) == 0 || m.Fields[len(m.Fields)-1].Number != def.Number {
			m.Fields = append(m.Fields, value.Field{Number: def.Number})
		}
		f := &m.Fields[len(m.Fields)-1]
		if def.Kind == api.Text || def.Kind == api.Bytes || def.Kind == api.Message {
			f.Values = append(f.Values, readValue(s, def, own))
			continue
		}
		for first := true; first || len(own) > 0; first = false {
			var one []byte
			one, own = cut(own, []int{api.Fixed32: 5, api.Fixed64: 1, api.Message: 0}[def.Kind])
			f.Values = append(f.Values, readValue(s, def, one))
		}
	}
	return m
}

// cut answers what b begins with, by its type (without a length ahead), and the rest.
func cut(b []byte, wireType int) (own, rest []byte) {
	n, size := binary.Uvarint(b)
	switch wireType {
	case 1:
		return b[:8], b[8:]
	case 5:
		return b[:4], b[4:]
	case 2:
		return b[size : size+int(n)], b[size+int(n):]
	}
	return b[:size], b[size:]
}

// readValue answers the value of a field's bytes.
func readValue(s api.Schema, def api.FieldDef, b []byte) value.Value {
	n, _ := binary.Uvarint(b)
	switch def.Kind {
	case api.Int64:
		return value.Int(n)
	case api.Uint64:
		return value.Uint(n)
	case api.Sint64:
		z, _ := binary.Varint(b)
		return value.Int(z)
	case api.Bool:
		return value.Bool(n == 1)
	case api.Text:
		return value.Text(b)
	case api.Bytes:
		return value.Bytes(b)
	case api.Fixed32:
		return value.Uint(binary.LittleEndian.Uint32(b))
	case api.Fixed64:
		return value.Uint(binary.LittleEndian.Uint64(b))
	case api.Enum:
		return value.Enum(n)
	}
	return readBack(s, def.Type, b)
}

// dice makes values at random.
type dice struct {
	*rand.Rand
	s api.Schema
}

// message answers a Message of that number that fits, lying depth deep.
func (d dice) message(number, depth int) value.Message {
	m := value.Message{Type: number}
	for _, def := range d.s.Messages[number].Fields {
		rare := 3
		if def.Kind == api.Message {
			rare += depth
		}
		if d.Intn(rare) > 0 || def.Kind == api.Message && depth == api.MaxDepth {
			continue
		}
		f := value.Field{Number: def.Number, Values: []value.Value{d.value(def, depth)}}
		for def.Repeated && d.Intn(3) > 0 {
			f.Values = append(f.Values, d.value(def, depth))
		}
		m.Fields = append(m.Fields, f)
	}
	for d.Intn(4) == 0 {
		m.Unknown += d.unknown(number)
	}
	return m
}

// unknown answers the bytes of a field that the message of that number hasn't, of
// all types, with numbers that are its own and such as aren't.
func (d dice) unknown(number int) string {
	contents := map[int][]string{0: {"\x00", "\x80\x00", "\xff\x01"}, 1: {"12345678"}, 2: {"\x00", "\x03abc", "\x80\x00"}, 5: {"1234"}}
	for {
		n, wireType := []int{1, 4, 7, 8, 11, 22, 25, 40, 2047, api.MaxField}[d.Intn(10)], []int{0, 1, 2, 5}[d.Intn(4)]
		if !value.Known(d.s.Messages[number], n, wireType) {
			list := contents[wireType]
			return string(binary.AppendUvarint(nil, uint64(n)<<3|uint64(wireType))) + list[d.Intn(len(list))]
		}
	}
}

// value answers a value of a field, often one by default, or at the edge of its Kind.
func (d dice) value(def api.FieldDef, depth int) value.Value {
	bits := d.Uint64() >> d.Intn(65)
	texts := []string{"", "", "a", "λ€😀", "ab\x00", strings.Repeat("x", d.Intn(2000))}
	text := texts[d.Intn(len(texts))]
	switch def.Kind {
	case api.Int64, api.Sint64:
		return []value.Value{value.Int(bits), -value.Int(bits), value.Int(0), value.Int(math.MinInt64), value.Int(math.MaxInt64)}[d.Intn(5)]
	case api.Uint64, api.Fixed64:
		return value.Uint(bits)
	case api.Fixed32:
		return value.Uint(uint32(bits))
	case api.Bool:
		return value.Bool(bits&1 == 1)
	case api.Text:
		return value.Text(text)
	case api.Bytes:
		return value.Bytes([]string{"", "\xff\x00"}[d.Intn(2)] + text)
	case api.Enum:
		return value.Enum(int32(bits))
	}
	return d.message(def.Type, depth+1)
}

// P10.1, and of DOC.md's P3 encode's side: values at random.
func TestAtRandom(t *testing.T) {
	d := dice{rand.New(rand.NewSource(10)), declaredSchema()}
	long := 0
	seen := map[string]string{}
	for range 20000 {
		number := d.Intn(len(d.s.Messages))
		m := d.message(number, 1)
		want := written(d.s, m)
		check(t, d.s, number, m, want)
		if len(want) > api.MaxSize {
			long++
		}
		// No two normal values have the same bytes.
		normal, _ := value.Normal(d.s, number, m)
		text, at := fmt.Sprintf("%#v", normal), fmt.Sprint(number, want)
		if before, ok := seen[at]; ok && before != text {
			t.Errorf("%s and %s have the same bytes", before, text)
		}
		seen[at] = text
		if t.Failed() {
			return
		}
	}
	if long < 200 || len(seen) < 9000 {
		t.Errorf("%d long ones, %d in all: too few", long, len(seen))
	}
}

// P4: any bytes as Text, Bytes and Unknown, and any numbers, in Messages that lie
// in others, too.
func FuzzEncode(f *testing.F) {
	for _, b := range []string{"", "\x78\x01", "\x08\x01", "x", "\x7a\x02ab", "\x22\x00", "\xff", "λ"} {
		f.Add(b, int64(len(b)), uint64(math.MaxUint64), int32(-1))
	}
	s := declaredSchema()
	f.Fuzz(func(t *testing.T, b string, n int64, u uint64, e int32) {
		inner := value.Message{Type: 1, Fields: []value.Field{field(1, value.Int(n)), field(2, all(field(21, value.Int(n), value.Int(-n)))), field(4, value.Text(b))}, Unknown: b}
		for _, m := range []value.Message{
			all(field(1, value.Int(n)), field(3, value.Int(n)), field(5, value.Text(b)), field(9, value.Enum(e)), field(29, value.Enum(e), value.Enum(0))),
			{Fields: []value.Field{field(2, value.Uint(u)), field(6, value.Bytes(b)), field(7, value.Uint(u)), field(26, value.Bytes(b), value.Bytes(""))}, Unknown: b},
			all(field(10, inner), field(30, inner, inner)),
			dice{rand.New(rand.NewSource(n)), s}.message(0, 1),
		} {
			if value.Fits(s, 0, m) {
				check(t, s, 0, m, written(s, m))
			} else {
				checkRefused(t, s, 0, m)
			}
		}
	})
}
