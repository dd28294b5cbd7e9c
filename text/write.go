package text

import (
	"strconv"
	"strings"

	"courier/api"
	"courier/value"
)

const hexDigits = "0123456789abcdef"

// written answers the text of v, which is normal and fits a message of s.
func written(s api.Schema, v value.Value) string {
	w := writer{s: s}
	w.value(v, api.FieldDef{})
	return w.String()
}

// writer is a text under way.
type writer struct {
	strings.Builder
	s api.Schema
}

// value writes v, a value of the field def.
func (w *writer) value(v value.Value, def api.FieldDef) {
	switch v := v.(type) {
	case value.Int:
		w.WriteString(strconv.FormatInt(int64(v), 10))
	case value.Uint:
		w.WriteString(strconv.FormatUint(uint64(v), 10))
	case value.Bool:
		w.WriteString(strconv.FormatBool(bool(v)))
	case value.Text:
		writeText(&w.Builder, string(v))
	case value.Bytes:
		w.bytes(string(v))
	case value.Enum:
		w.enum(w.s.Enums[def.Type], int(v))
	case value.Message:
		w.message(v)
	}
}

// message writes m, its fields, and what it has Unknown.
func (w *writer) message(m value.Message) {
	defs := w.s.Messages[m.Type].Fields
	w.WriteByte('{')
	for i, f := range m.Fields {
		w.between(i)
		// The fields of both rise, so that each def is passed at most once.
		for defs[0].Number != f.Number {
			defs = defs[1:]
		}
		w.WriteString(defs[0].Name + ": ")
		w.values(f.Values, defs[0])
	}
	if m.Unknown != "" {
		w.between(len(m.Fields))
		w.WriteString("?: ")
		w.bytes(m.Unknown)
	}
	w.WriteByte('}')
}

// values writes the values of the field def.
func (w *writer) values(list []value.Value, def api.FieldDef) {
	if !def.Repeated {
		w.value(list[0], def)
		return
	}
	w.WriteByte('[')
	for i, v := range list {
		w.between(i)
		w.value(v, def)
	}
	w.WriteByte(']')
}

// between writes what stands ahead of the member i of a list.
func (w *writer) between(i int) {
	if i > 0 {
		w.WriteString(", ")
	}
}

// enum writes the name of d's value of that number, or the number, if it has none.
func (w *writer) enum(d api.EnumDef, number int) {
	for _, v := range d.Values {
		if v.Number == number {
			w.WriteString(v.Name)
			return
		}
	}
	w.WriteString(strconv.Itoa(number))
}

// bytes writes b as Bytes.
func (w *writer) bytes(b string) {
	w.WriteString(`x"`)
	for i := range len(b) {
		w.WriteByte(hexDigits[b[i]>>4])
		w.WriteByte(hexDigits[b[i]&15])
	}
	w.WriteByte('"')
}

// writeText writes s, which is valid, as a Text.
func writeText(b *strings.Builder, s string) {
	b.WriteByte('"')
	// What is written otherwise is one byte each, and no byte of a longer rune is
	// like one of those.
	for i := range len(s) {
		switch c := s[i]; {
		case c == '"' || c == '\\':
			b.WriteByte('\\')
			b.WriteByte(c)
		case c == '\n':
			b.WriteString(`\n`)
		case c < 0x20 || c == 0x7f:
			b.WriteString(`\u00`)
			b.WriteByte(hexDigits[c>>4])
			b.WriteByte(hexDigits[c&15])
		default:
			b.WriteByte(c)
		}
	}
	b.WriteByte('"')
}
