package decode

import (
	"encoding/binary"
	"maps"
	"math"
	"math/rand"
	"reflect"
	"slices"
	"strings"
	"testing"

	"courier/api"
	"courier/encode"
	"courier/value"
)

// slot is what a field of a message has gathered: each piece that came changes it.
type slot struct {
	values []value.Value
	joined string
	err    api.Errno
}

// model answers what b is read as, by the library's own ways of reading numbers: it
// goes through the bytes once, piece by piece, and looks at the fields behind that.
func model(s api.Schema, number int, b string, depth int) (value.Message, api.Errno) {
	if depth > 16 {
		return value.Message{}, api.ErrDeep
	}
	m := value.Message{Type: number}
	slots := map[int]slot{}
	for b != "" {
		key, content, rest, ok := piece(b)
		if !ok {
			return value.Message{}, api.ErrForm
		}
		at := slices.IndexFunc(s.Messages[number].Fields, func(f api.FieldDef) bool { return f.Number == int(key>>3) })
		if at < 0 || !modelKnown(s.Messages[number].Fields[at], int(key&7)) {
			m.Unknown += b[:len(b)-len(rest)]
		} else {
			slots[int(key>>3)] = gathered(s, s.Messages[number].Fields[at], slots[int(key>>3)], int(key&7), content, depth)
		}
		b = rest
	}
	for _, n := range slices.Sorted(maps.Keys(slots)) {
		at := slices.IndexFunc(s.Messages[number].Fields, func(f api.FieldDef) bool { return f.Number == n })
		def, got := s.Messages[number].Fields[at], slots[n]
		if def.Kind == api.Message && !def.Repeated {
			inner, err := model(s, def.Type, got.joined, depth+1)
			got.values, got.err = []value.Value{inner}, err
		}
		if got.err != api.OK {
			return value.Message{}, got.err
		}
		if len(got.values) > 0 && (def.Repeated || def.Kind == api.Message || !reflect.ValueOf(got.values[0]).IsZero()) {
			m.Fields = append(m.Fields, value.Field{Number: n, Values: got.values})
		}
	}
	return m, api.OK
}

// piece answers the varint that b begins with, what belongs to it, without a length
// ahead, and what is behind that; and whether that is a field at all.
func piece(b string) (key uint64, content, rest string, ok bool) {
	key, size := binary.Uvarint([]byte(b))
	if size <= 0 || key>>3 == 0 || key>>3 > 536870911 {
		return 0, "", "", false
	}
	b = b[size:]
	n, size := binary.Uvarint([]byte(b))
	switch key & 7 {
	case 0:
	case 1:
		size = 8
	case 2:
		if size <= 0 || n > uint64(len(b)-size) {
			return 0, "", "", false
		}
		return key, b[size:][:n], b[size:][n:], true
	case 5:
		size = 4
	default:
		return 0, "", "", false
	}
	if size <= 0 || size > len(b) {
		return 0, "", "", false
	}
	return key, b[:size], b[size:], true
}

// modelKnown answers whether one of def's fields may be of that type.
func modelKnown(def api.FieldDef, wireType int) bool {
	own := []int{0, 0, 0, 0, 0, 2, 2, 5, 1, 0, 2}[def.Kind]
	return wireType == own || wireType == 2 && def.Repeated
}

// gathered answers a slot with one more piece in it.
func gathered(s api.Schema, def api.FieldDef, before slot, wireType int, content string, depth int) slot {
	if def.Kind == api.Message && !def.Repeated {
		return slot{joined: before.joined + content}
	}
	var now slot
	switch {
	case def.Kind == api.Message:
		inner, err := model(s, def.Type, content, depth+1)
		now = slot{values: []value.Value{inner}, err: err}
	case def.Kind == api.Text:
		now.values = []value.Value{value.Text(content)}
		if string([]rune(content)) != content {
			now.err = api.ErrText
		}
	case def.Kind == api.Bytes:
		now.values = []value.Value{value.Bytes(content)}
	default:
		now = numbers(def.Kind, wireType, content)
	}
	if !def.Repeated || before.err == api.OK && now.err != api.OK {
		return now
	}
	return slot{values: slices.Concat(before.values, now.values), err: before.err}
}

// numbers answers what is gathered of numbers, of which one is there at least, but
// in a pack.
func numbers(kind, wireType int, content string) slot {
	var out slot
	for rest := []byte(content); len(rest) > 0; {
		n, size := binary.Uvarint(rest)
		z, _ := binary.Varint(rest)
		if kind == api.Fixed32 && len(rest) >= 4 {
			n, size = uint64(binary.LittleEndian.Uint32(rest)), 4
		} else if kind == api.Fixed64 && len(rest) >= 8 {
			n, size = binary.LittleEndian.Uint64(rest), 8
		} else if kind == api.Fixed32 || kind == api.Fixed64 || size <= 0 {
			return slot{err: api.ErrForm}
		}
		v := map[int]value.Value{
			api.Int64: value.Int(n), api.Uint64: value.Uint(n), api.Sint64: value.Int(z), api.Bool: value.Bool(n > 0), api.Fixed32: value.Uint(n), api.Fixed64: value.Uint(n),
			// Its lowest 32 bits, of which the highest one is the sign's.
			api.Enum: value.Enum(int64(n%(1<<32)) - int64(n>>31&1)<<32),
		}[kind]
		out.values = append(out.values, v)
		rest = rest[size:]
	}
	return out
}

// dice makes bytes at random.
type dice struct {
	*rand.Rand
	s api.Schema
	// faults is how rarely something is wrong: one in so many.
	faults int
}

func (d dice) wrong() bool { return d.Intn(d.faults) == 0 }

// varint answers a varint of n, at times not the shortest.
func (d dice) varint(n uint64) string {
	b := binary.AppendUvarint(nil, n)
	for d.Intn(6) == 0 && len(b) < 10 {
		b[len(b)-1] |= 0x80
		b = append(b, 0)
	}
	if d.wrong() {
		return strings.Repeat("\xff", 1+d.Intn(12))
	}
	return string(b)
}

// message answers the bytes of some fields, most of them the message's.
func (d dice) message(number, depth int) string {
	var b strings.Builder
	defs := d.s.Messages[number].Fields
	for d.Intn(4+depth) > depth/2 {
		if len(defs) == 0 || d.Intn(6) == 0 {
			b.WriteString(d.field([]int{1, 4, 7, 11, 22, 25, 40, 2047, api.MaxField}[d.Intn(9)], []int{0, 1, 2, 5}[d.Intn(4)], d.text()))
			continue
		}
		def := defs[d.Intn(len(defs))]
		for range 1 + d.Intn(3) {
			b.WriteString(d.known(def, depth))
		}
	}
	text := b.String()
	if d.wrong() && len(text) > 0 {
		return text[:d.Intn(len(text))]
	}
	return text
}

// spine answers bytes of a message of All or Part in which that many more lie in one
// another, each with something beside it at times.
func (d dice) spine(number, more int) string {
	if more == 0 {
		return ""
	}
	defs := d.s.Messages[number].Fields
	beside := defs[d.Intn(len(defs))]
	at := [][]int{{10, 30}, {2, 2}}[number][d.Intn(2)]
	out := d.field(at, 2, d.spine(1-number, more-1))
	if beside.Kind != api.Message && beside.Kind != api.Text && d.Intn(3) == 0 {
		return []string{out + d.known(beside, 1), d.known(beside, 1) + out}[d.Intn(2)]
	}
	return out
}

// known answers the bytes of one of def's fields.
func (d dice) known(def api.FieldDef, depth int) string {
	wireType := []int{0, 0, 0, 0, 0, 2, 2, 5, 1, 0, 2}[def.Kind]
	content := d.text()
	switch def.Kind {
	case api.Message:
		content = ""
		if depth < 20 {
			content = d.message(def.Type, depth+1)
		}
	case api.Text:
		if d.wrong() {
			content += []string{"\xff", "\xce", "\xed\xa0\x80"}[d.Intn(3)]
		}
	case api.Bytes:
		content += []string{"", "\xff\x00"}[d.Intn(2)]
	default:
		if def.Repeated && d.Intn(2) == 0 {
			content = d.pack(wireType)
			wireType = 2
		}
	}
	return d.field(def.Number, wireType, content)
}

// field answers the bytes of a field, with that content, if it is one of bytes.
func (d dice) field(number, wireType int, content string) string {
	key := d.varint(uint64(number)<<3 | uint64(wireType))
	if wireType == 2 {
		return key + d.varint(uint64(len(content))) + content
	}
	return key + d.number(wireType)
}

// number answers the bytes of a number, often one by default, or at an edge.
func (d dice) number(wireType int) string {
	n := []uint64{0, 1, d.Uint64() >> d.Intn(65), 1 << 31, 1 << 32, math.MaxUint64, d.Uint64() << 32}[d.Intn(7)]
	switch wireType {
	case 1:
		return string(binary.LittleEndian.AppendUint64(nil, n))
	case 5:
		return string(binary.LittleEndian.AppendUint32(nil, uint32(n)))
	}
	return d.varint(n)
}

func (d dice) pack(wireType int) string {
	out := ""
	for d.Intn(3) > 0 {
		out += d.number(wireType)
	}
	if d.wrong() && len(out) > 0 {
		return out[:len(out)-1]
	}
	return out
}

func (d dice) text() string {
	return []string{"", "", "a", "λ€😀", "ab\x00", strings.Repeat("x", d.Intn(200)), strings.Repeat("y", d.Intn(2000))}[d.Intn(7)]
}

// checkModel holds what the package answers of any bytes against the model, and
// answers the error.
func checkModel(t *testing.T, s api.Schema, number int, b string) api.Errno {
	t.Helper()
	want, err := model(s, number, b, 1)
	if len(b) > 4096 {
		err = api.ErrLong
	}
	if err == api.OK {
		check(t, s, number, []byte(b), want)
	} else {
		checkRefused(t, s, number, []byte(b), err)
	}
	return err
}

// P11.1, P11.2, and of DOC.md's P4 decode's side: bytes at random.
func TestAtRandom(t *testing.T) {
	d := dice{rand.New(rand.NewSource(11)), declaredSchema(), 0}
	seen := map[api.Errno]int{}
	for i := range 40000 {
		d.faults = []int{1 << 30, 400, 60}[i%3]
		number := d.Intn(len(d.s.Messages))
		b := []byte(d.message(number, 1))
		if number < 2 && d.Intn(4) == 0 {
			b = append(b, d.spine(number, 12+d.Intn(8))...)
		}
		for i%2 == 0 && len(b) > 0 && d.Intn(3) > 0 {
			b[d.Intn(len(b))] = byte(d.Intn(256))
		}
		seen[checkModel(t, d.s, number, string(b))]++
		if t.Failed() {
			return
		}
	}
	for _, err := range []api.Errno{api.OK, api.ErrForm, api.ErrText, api.ErrDeep, api.ErrLong} {
		if seen[err] < 50 {
			t.Errorf("error %d: %d times, too few", err, seen[err])
		}
	}
}

// P11.2: values at random, encoded and decoded.
func TestValuesAtRandom(t *testing.T) {
	d := dice{rand.New(rand.NewSource(12)), declaredSchema(), 1 << 30}
	count := 0
	for range 20000 {
		number := d.Intn(len(d.s.Messages))
		m, err := model(d.s, number, d.message(number, 1), 1)
		if err != api.OK {
			continue
		}
		full := d.padded(m)
		b, err := encode.Encode(d.s, number, full)
		if err == api.ErrLong {
			continue
		}
		normal, refused := value.Normal(d.s, number, full)
		if err != api.OK || refused != api.OK || !value.Same(normal, m) {
			t.Fatal(full, err, refused)
		}
		check(t, d.s, number, b, m)
		count++
		if t.Failed() {
			return
		}
	}
	if count < 10000 {
		t.Errorf("%d values: too few", count)
	}
}

// padded answers m with some fields more that are as by default.
func (d dice) padded(m value.Message) value.Message {
	out := value.Message{Type: m.Type, Unknown: m.Unknown}
	zeros := []value.Value{nil, value.Int(0), value.Uint(0), value.Int(0), value.Bool(false), value.Text(""), value.Bytes(""), value.Uint(0), value.Uint(0), value.Enum(0)}
	for _, def := range d.s.Messages[m.Type].Fields {
		values := slices.Clone(value.Get(m, def.Number))
		for i, v := range values {
			if inner, ok := v.(value.Message); ok {
				values[i] = d.padded(inner)
			}
		}
		if len(values) == 0 && !def.Repeated && def.Kind != api.Message && d.Intn(2) == 0 {
			values = []value.Value{zeros[def.Kind]}
		}
		if len(values) > 0 {
			out.Fields = append(out.Fields, value.Field{Number: def.Number, Values: values})
		}
	}
	return out
}

// P4: any bytes, as each message.
func FuzzDecode(f *testing.F) {
	for _, b := range []string{
		"", "\x08\x01\x08\x02", "\x08\x01\x08\x00", "\x0a\x01x", "\x08", "\x2a\x01\xff", "\x2a\x01\xff\x2a\x01a", "\xaa\x01\x03\x01\x80\x01\xa8\x01\x05", "\xaa\x01\x01\x80", "\x52\x02\x08\x01\x52\x02\x22\x00",
		"\x52\x01\x08\x52\x01\x01", "\xf2\x01\x00\xf2\x01\x02\x12\x00", "\x48\xff\xff\xff\xff\x1f", "\xda\x01\x04abcd\xdd\x01abcd", "\x20\x02", "\x58\x80\x00\x5a\x01\xff", string(deep(16, [2]string{"52", "12"}, "")), string(deep(17, [2]string{"52", "12"}, "")),
	} {
		f.Add(b, int64(len(b)))
	}
	s := declaredSchema()
	f.Fuzz(func(t *testing.T, b string, seed int64) {
		d := dice{rand.New(rand.NewSource(seed)), s, 200}
		for number := range s.Messages {
			checkModel(t, s, number, b)
			checkModel(t, s, number, d.message(number, 1)+b)
			checkModel(t, s, number, b+d.spine(number%2, 12+d.Intn(8)))
		}
	})
}
