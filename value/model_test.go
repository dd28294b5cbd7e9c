package value

import (
	"fmt"
	"math/rand"
	"slices"
	"strings"
	"testing"
	"unicode/utf8"

	"courier/api"
	"courier/schema"
	"courier/wire"
)

// show answers all of a value as a text, of which no two that differ have the same.
func show(v Value) string {
	m, ok := v.(Message)
	if !ok {
		return fmt.Sprintf("%T(%#v)", v, v)
	}
	var b strings.Builder
	fmt.Fprintf(&b, "message %d %q {", m.Type, m.Unknown)
	for _, f := range m.Fields {
		fmt.Fprintf(&b, "%d [", f.Number)
		for _, one := range f.Values {
			b.WriteString(show(one) + ",")
		}
		b.WriteString("]")
	}
	return b.String() + "}"
}

// modelFits answers whether v fits: it goes through all Messages by a list of those
// that wait, and through the fields of the schema, not through those of the value.
func modelFits(s api.Schema, number int, v Value) bool {
	if !schema.Formed(s) || number < 0 || number >= len(s.Messages) {
		return false
	}
	type waiting struct {
		number, depth int
		v             Value
	}
	list := []waiting{{number, 1, v}}
	for len(list) > 0 {
		w := list[0]
		list = list[1:]
		m, ok := w.v.(Message)
		if !ok || w.depth > 16 || m.Type != w.number {
			return false
		}
		var numbers []int
		for _, f := range m.Fields {
			numbers = append(numbers, f.Number)
		}
		unique := slices.Compact(slices.Sorted(slices.Values(numbers)))
		if !slices.Equal(numbers, unique) {
			return false
		}
		found := 0
		for _, def := range s.Messages[w.number].Fields {
			at := slices.Index(numbers, def.Number)
			if at >= 0 {
				found++
				values := m.Fields[at].Values
				if len(values) < 1 || len(values) >= 2 && !def.Repeated {
					return false
				}
				for _, one := range values {
					if def.Kind == api.Message {
						list = append(list, waiting{def.Type, w.depth + 1, one})
					} else if !modelKind(def.Kind, one) {
						return false
					}
				}
			}
			if modelKnown(def, m.Unknown) {
				return false
			}
		}
		if _, _, err := wire.Split([]byte(m.Unknown)); err != api.OK || found != len(numbers) {
			return false
		}
	}
	return true
}

// modelKind answers whether v fits a Kind that isn't Message.
func modelKind(kind int, v Value) bool {
	switch v := v.(type) {
	case Int:
		return kind == api.Int64 || kind == api.Sint64
	case Uint:
		return kind == api.Uint64 || kind == api.Fixed64 || kind == api.Fixed32 && uint64(v)>>32 == 0
	case Bool:
		return kind == api.Bool
	case Text:
		return kind == api.Text && string([]rune(string(v))) == string(v)
	case Bytes:
		return kind == api.Bytes
	case Enum:
		return kind == api.Enum
	}
	return false
}

// modelKnown answers whether there is a field in unknown that is known as def.
func modelKnown(def api.FieldDef, unknown string) bool {
	for len(unknown) > 0 {
		f, size, err := wire.Take([]byte(unknown))
		if err != api.OK {
			return false
		}
		i := 0
		if def.Repeated {
			i = 1
		}
		if f.Number == def.Number && slices.Contains(knownTypes[def.Kind][i], f.Type) {
			return true
		}
		unknown = unknown[size:]
	}
	return false
}

// modelNormal answers the normal value of v, which fits, from the inside out.
func modelNormal(s api.Schema, v Value) Value {
	m, ok := v.(Message)
	if !ok {
		return v
	}
	out := Message{Type: m.Type, Unknown: m.Unknown}
	for _, def := range s.Messages[m.Type].Fields {
		for _, f := range m.Fields {
			if f.Number != def.Number {
				continue
			}
			var values []Value
			for _, one := range f.Values {
				values = append(values, modelNormal(s, one))
			}
			defaults := []Value{Int(0), Uint(0), Bool(false), Text(""), Bytes(""), Enum(0)}
			if def.Repeated || def.Kind == api.Message || !slices.Contains(defaults, values[0]) {
				out.Fields = append(out.Fields, Field{f.Number, values})
			}
		}
	}
	return out
}

// maker makes values at random.
type maker struct {
	*rand.Rand
	s api.Schema
}

// fitting answers a Message that fits the message of that number, mostly: one that
// goes deeper than may be is made now and then.
func (r maker) fitting(number, depth int) Message {
	m := Message{Type: number}
	for _, def := range r.s.Messages[number].Fields {
		if r.Intn(3) > 0 || def.Kind == api.Message && depth > 3 && r.Intn(10) < 7 {
			continue
		}
		f := Field{Number: def.Number}
		count := 1
		if def.Repeated {
			count += r.Intn(3)
		}
		for range count {
			if def.Kind == api.Message {
				f.Values = append(f.Values, r.fitting(def.Type, depth+1))
			} else {
				f.Values = append(f.Values, r.of(def.Kind))
			}
		}
		m.Fields = append(m.Fields, f)
	}
	for r.Intn(4) == 0 {
		m.Unknown += plain([]int{1, 4, 7, 15, 22, 27, 40, api.MaxField}[r.Intn(8)], []int{0, 1, 2, 5}[r.Intn(4)])
	}
	return m
}

// of answers a value for a field of a Kind that isn't Message.
func (r maker) of(kind int) Value {
	texts := []string{"", "", "a", "λ", "ab\x00"}
	switch kind {
	case api.Int64, api.Sint64:
		return Int(r.Intn(3) - 1)
	case api.Uint64, api.Fixed64:
		return Uint(r.Uint64()) >> r.Intn(65)
	case api.Fixed32:
		return Uint(r.Uint32()) >> r.Intn(33)
	case api.Bool:
		return Bool(r.Intn(2) == 0)
	case api.Text:
		return Text(texts[r.Intn(len(texts))])
	case api.Bytes:
		return Bytes(append(texts, "\xff")[r.Intn(len(texts)+1)])
	}
	return Enum(r.Intn(4) - 1)
}

// any answers something for any field.
func (r maker) any() Value {
	list := slices.Concat(distinct(), others())
	if r.Intn(2) == 0 {
		return list[r.Intn(len(list))]
	}
	return r.of(1 + r.Intn(9))
}

// spoiled answers m, a Message made for it alone, with something changed in it.
func (r maker) spoiled(m Message) Message {
	if len(m.Fields) == 0 || r.Intn(6) == 0 {
		switch r.Intn(4) {
		case 0:
			m.Type = r.Intn(5) - 1
		case 1:
			m.Unknown += []string{"x", "\x08\x01", "\x78", "\x22\x00", "\x7a\x01", "\x10\x01"}[r.Intn(6)]
		case 2:
			m.Fields = append(m.Fields, field(r.Intn(32), r.any()))
		}
		return m
	}
	i := r.Intn(len(m.Fields))
	f := &m.Fields[i]
	k := -1
	if len(f.Values) > 0 {
		k = r.Intn(len(f.Values))
		if inner, ok := f.Values[k].(Message); ok && r.Intn(3) > 0 {
			f.Values[k] = r.spoiled(inner)
			return m
		}
	}
	switch r.Intn(6) {
	case 0:
		f.Number = r.Intn(32)
	case 1:
		f.Values = append(f.Values, r.any())
	case 2:
		f.Values = nil
	case 3:
		if k >= 0 {
			f.Values[k] = r.any()
		}
	case 4:
		k := r.Intn(len(m.Fields))
		m.Fields[i], m.Fields[k] = m.Fields[k], m.Fields[i]
	case 5:
		m.Fields = append(m.Fields, m.Fields[i])
	}
	return m
}

// checkModel holds what the package answers against the model.
func checkModel(t *testing.T, s api.Schema, number int, v Value) bool {
	t.Helper()
	fits := modelFits(s, number, v)
	checkFits(t, s, number, v, fits)
	if fits {
		n, _ := Normal(s, number, v)
		if want := modelNormal(s, v); show(n) != show(want) || !Same(n, want) || Same(n, v) != (show(n) == show(v)) {
			t.Errorf("Normal(%s) = %s, want %s", show(v), show(n), show(want))
		}
	}
	return fits
}

// P9.1 and P9.3: values at random, whole and spoiled, against the model.
func TestModel(t *testing.T) {
	r := maker{rand.New(rand.NewSource(9)), sampleSchema()}
	counts := map[bool]int{}
	for range 20000 {
		number := r.Intn(3)
		v := r.fitting(number, 1)
		counts[checkModel(t, r.s, number, v)]++
		for range r.Intn(3) {
			v = r.spoiled(v)
		}
		counts[checkModel(t, r.s, number, v)]++
		w := r.spoiled(Must(v))
		// What can't be compared, or only by its address, isn't told by its text.
		text := show(v)
		odd := strings.Contains(text, "listed") || strings.Contains(text, "lying") || strings.Contains(text, "*")
		if !odd && (Same(v, w) != (show(v) == show(w)) || !Same(v, v)) {
			t.Errorf("Same(%s, %s) = %v", show(v), show(w), Same(v, w))
		}
		if t.Failed() {
			return
		}
	}
	if counts[true] < 5000 || counts[false] < 5000 {
		t.Errorf("%v: too few of one sort", counts)
	}
}

// P4: any bytes as Unknown, as a Text and as Bytes.
func FuzzFits(f *testing.F) {
	for _, b := range []string{"", "\x78\x01", "\x08\x01", "x", "\x7a\x02ab", "\x22\x00", "\xff", "λ"} {
		f.Add(b, int64(len(b)))
	}
	s := sampleSchema()
	f.Fuzz(func(t *testing.T, b string, seed int64) {
		checkModel(t, s, 0, Message{Unknown: b})
		checkModel(t, s, 1, ofB(field(2, Message{Unknown: b})))
		checkFits(t, s, 0, of(field(5, Text(b)), field(6, Bytes(b))), utf8.ValidString(b))
		r := maker{rand.New(rand.NewSource(seed)), s}
		checkModel(t, s, 0, r.spoiled(r.fitting(0, 1)))
	})
}
