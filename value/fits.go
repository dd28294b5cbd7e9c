package value

import (
	"unicode/utf8"

	"courier/api"
	"courier/wire"
)

// Layer 2's types of fields, named by what belongs to them.
const (
	asVarint = 0
	asEight  = 1
	asBytes  = 2
	asFour   = 5
)

// fitsMessage answers whether v, which lies depth deep, fits the message t of a
// schema that is formed.
func fitsMessage(s api.Schema, t int, v Value, depth int) bool {
	m, ok := v.(Message)
	// The depth is asked ahead of what lies in m, which may go down without an end.
	if !ok || m.Type != t || depth > api.MaxDepth {
		return false
	}
	d := s.Messages[t]
	last := 0
	for _, f := range m.Fields {
		if f.Number <= last || !fitsField(s, d, f, depth) {
			return false
		}
		last = f.Number
	}
	return noneKnown(d, m.Unknown)
}

// fitsField answers whether f is one of d's fields, with as many values as that
// may have, all of which fit.
func fitsField(s api.Schema, d api.MessageDef, f Field, depth int) bool {
	def, ok := defined(d, f.Number)
	if !ok || len(f.Values) == 0 || len(f.Values) > 1 && !def.Repeated {
		return false
	}
	for _, v := range f.Values {
		if !fitsKind(s, def, v, depth) {
			return false
		}
	}
	return true
}

// fitsKind answers whether v fits the Kind of def, a field of a message that lies
// depth deep.
func fitsKind(s api.Schema, def api.FieldDef, v Value, depth int) bool {
	ok := false
	switch def.Kind {
	case api.Int64, api.Sint64:
		_, ok = v.(Int)
	case api.Uint64, api.Fixed64:
		_, ok = v.(Uint)
	case api.Fixed32:
		n, is := v.(Uint)
		ok = is && n < 1<<32
	case api.Bool:
		_, ok = v.(Bool)
	case api.Text:
		text, is := v.(Text)
		ok = is && utf8.ValidString(string(text))
	case api.Bytes:
		_, ok = v.(Bytes)
	case api.Enum:
		_, ok = v.(Enum)
	case api.Message:
		ok = fitsMessage(s, def.Type, v, depth+1)
	}
	return ok
}

// defined answers d's field of that number, if there is one.
func defined(d api.MessageDef, number int) (api.FieldDef, bool) {
	for _, f := range d.Fields {
		if f.Number == number {
			return f, true
		}
	}
	return api.FieldDef{}, false
}

// noneKnown answers whether unknown is just fields' bytes, none of them known to d.
func noneKnown(d api.MessageDef, unknown string) bool {
	fields, _, err := wire.Split([]byte(unknown))
	if err != api.OK {
		return false
	}
	for _, f := range fields {
		if Known(d, f.Number, f.Type) {
			return false
		}
	}
	return true
}

// typeFits answers whether a field of f's number may be of that type.
func typeFits(f api.FieldDef, wireType int) bool {
	// Repeated numbers may lie packed in one field of bytes; what else is repeated
	// is of that type already.
	return wireType == ownType(f.Kind) || f.Repeated && wireType == asBytes
}

// ownType answers the type of a field that has one value of that Kind.
func ownType(kind int) int {
	switch kind {
	case api.Int64, api.Uint64, api.Sint64, api.Bool, api.Enum:
		return asVarint
	case api.Fixed32:
		return asFour
	case api.Fixed64:
		return asEight
	}
	return asBytes
}
