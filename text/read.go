package text

import (
	"strconv"
	"strings"

	"courier/api"
	"courier/value"
)

// reader is a text being read, from its front on. It is kinder than the promises
// are: whether a number, a rune or a field is written as it must be is asked
// afterwards, of the whole text.
type reader struct {
	s    api.Schema
	rest string
}

// skip passes over word, if it stands next.
func (r *reader) skip(word string) bool {
	rest, ok := strings.CutPrefix(r.rest, word)
	r.rest = rest
	return ok
}

// until answers what stands ahead of the first of those bytes, or of the end.
func (r *reader) until(ends string) string {
	at := strings.IndexAny(r.rest, ends)
	if at < 0 {
		at = len(r.rest)
	}
	word := r.rest[:at]
	r.rest = r.rest[at:]
	return word
}

// message reads a Message of the message t, which lies depth deep.
func (r *reader) message(t, depth int) (value.Message, bool) {
	m := value.Message{Type: t}
	// What lies too deep isn't even read, so that the text can't ask for a stack
	// as deep as it is long.
	if depth > api.MaxDepth || !r.skip("{") {
		return m, false
	}
	if r.skip("}") {
		return m, true
	}
	for {
		if r.skip("?: ") {
			unknown, ok := r.bytes()
			m.Unknown = unknown
			return m, ok && r.skip("}")
		}
		f, ok := r.field(t, depth)
		m.Fields = append(m.Fields, f)
		if !ok || r.skip("}") {
			return m, ok
		}
		if !r.skip(", ") {
			return m, false
		}
	}
}

// field reads a field of a Message of the message t, which lies depth deep.
func (r *reader) field(t, depth int) (value.Field, bool) {
	name := r.until(":")
	for _, def := range r.s.Messages[t].Fields {
		if def.Name == name {
			values, ok := r.values(def, depth)
			return value.Field{Number: def.Number, Values: values}, ok
		}
	}
	return value.Field{}, false
}

// values reads what stands behind the name of the field def.
func (r *reader) values(def api.FieldDef, depth int) ([]value.Value, bool) {
	if !r.skip(": ") {
		return nil, false
	}
	if !def.Repeated {
		v, ok := r.value(def, depth)
		return []value.Value{v}, ok
	}
	if !r.skip("[") {
		return nil, false
	}
	var list []value.Value
	for {
		v, ok := r.value(def, depth)
		list = append(list, v)
		if !ok || r.skip("]") {
			return list, ok
		}
		if !r.skip(", ") {
			return list, false
		}
	}
}

// value reads a value of the field def.
func (r *reader) value(def api.FieldDef, depth int) (value.Value, bool) {
	switch def.Kind {
	case api.Text:
		s, ok := r.text()
		return value.Text(s), ok
	case api.Bytes:
		s, ok := r.bytes()
		return value.Bytes(s), ok
	case api.Message:
		return r.message(def.Type, depth+1)
	}
	word := r.until(",]}")
	switch def.Kind {
	case api.Int64, api.Sint64:
		n, err := strconv.ParseInt(word, 10, 64)
		return value.Int(n), err == nil
	case api.Bool:
		return value.Bool(word == "true"), word == "true" || word == "false"
	case api.Enum:
		return enumOf(r.s.Enums[def.Type], word)
	}
	n, err := strconv.ParseUint(word, 10, 64)
	return value.Uint(n), err == nil
}

// enumOf answers the Enum that word tells, by a name of d or by digits.
func enumOf(d api.EnumDef, word string) (value.Enum, bool) {
	for _, v := range d.Values {
		if v.Name == word {
			return value.Enum(v.Number), true
		}
	}
	n, err := strconv.ParseInt(word, 10, 32)
	return value.Enum(n), err == nil
}

// bytes reads Bytes.
func (r *reader) bytes() (string, bool) {
	if !r.skip(`x"`) {
		return "", false
	}
	digits := r.until(`"`)
	if len(digits)%2 != 0 || !r.skip(`"`) {
		return "", false
	}
	var b strings.Builder
	for i := 0; i < len(digits); i += 2 {
		n, err := strconv.ParseUint(digits[i:i+2], 16, 8)
		if err != nil {
			return "", false
		}
		b.WriteByte(byte(n))
	}
	return b.String(), true
}

// text reads a Text.
func (r *reader) text() (string, bool) {
	if !r.skip(`"`) {
		return "", false
	}
	var b strings.Builder
	for {
		b.WriteString(r.until(`"\`))
		if !r.skip(`\`) {
			return b.String(), r.skip(`"`)
		}
		c, ok := r.escaped()
		if !ok {
			return "", false
		}
		b.WriteByte(c)
	}
}

// escaped reads what stands behind a \. All that is written so is one byte each.
func (r *reader) escaped() (byte, bool) {
	if r.rest == "" {
		return 0, false
	}
	letter := r.rest[0]
	r.rest = r.rest[1:]
	switch letter {
	case '"', '\\':
		return letter, true
	case 'n':
		return '\n', true
	case 'u':
		digits := r.rest[:min(4, len(r.rest))]
		r.rest = r.rest[len(digits):]
		n, err := strconv.ParseUint(digits, 16, 8)
		return byte(n), err == nil
	}
	return 0, false
}
