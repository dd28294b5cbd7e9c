package value

import (
	"slices"
	"strings"

	"courier/api"
)

// mostNested is how many Messages may lie in one another where there is no smaller
// bound: a Message can lie in itself, by a list that it is put into, and then there
// is no end of them.
const mostNested = 1 << 16

// freshValues answers the values of v's first field of that number, in new memory.
func freshValues(v Value, number int) []Value {
	m, ok := v.(Message)
	if !ok {
		return nil
	}
	for _, f := range m.Fields {
		if f.Number == number {
			out := make([]Value, len(f.Values))
			for i, one := range f.Values {
				out[i] = fresh(one)
			}
			return out
		}
	}
	return nil
}

// fresh answers v in new memory, but for what never ends: of that no copy can be made.
func fresh(v Value) Value {
	if endless(v, 1) {
		return v
	}
	return copied(v, func(Message, Field) bool { return true })
}

// endless answers whether too many Messages lie in one another, in v, which lies
// depth deep.
func endless(v Value, depth int) bool {
	m, ok := v.(Message)
	if !ok {
		return false
	}
	if depth > mostNested {
		return true
	}
	for _, f := range m.Fields {
		for _, one := range f.Values {
			if endless(one, depth+1) {
				return true
			}
		}
	}
	return false
}

// copied answers v in new memory, with those fields of its Messages that keep names.
// What isn't of this layer's types is handed on: nobody can tell what there is in it.
func copied(v Value, keep func(Message, Field) bool) Value {
	if t, ok := v.(Text); ok {
		return Text(strings.Clone(string(t)))
	}
	if b, ok := v.(Bytes); ok {
		return Bytes(strings.Clone(string(b)))
	}
	m, ok := v.(Message)
	if !ok {
		return v
	}
	out := Message{Type: m.Type, Unknown: strings.Clone(m.Unknown)}
	for _, f := range m.Fields {
		if !keep(m, f) {
			continue
		}
		values := make([]Value, len(f.Values))
		for i, one := range f.Values {
			values[i] = copied(one, keep)
		}
		out.Fields = append(out.Fields, Field{Number: f.Number, Values: values})
	}
	return out
}

// stays answers whether the normal value has f, a field that fits one of d's.
func stays(d api.MessageDef, f Field) bool {
	def, _ := defined(d, f.Number)
	return def.Repeated || !byDefault(f.Values[0])
}

// byDefault answers whether v is what a field without a value is read as. A Message
// never is.
func byDefault(v Value) bool {
	if n, ok := v.(Int); ok {
		return n == 0
	}
	if n, ok := v.(Uint); ok {
		return n == 0
	}
	if b, ok := v.(Bool); ok {
		return !bool(b)
	}
	if t, ok := v.(Text); ok {
		return t == ""
	}
	if b, ok := v.(Bytes); ok {
		return b == ""
	}
	n, ok := v.(Enum)
	return ok && n == 0
}

// same answers whether all of a and b, which lie depth deep, is alike. What never
// ends is like nothing.
func same(a, b Value, depth int) bool {
	x, ok := a.(Message)
	y, both := b.(Message)
	if !ok || !both {
		return alike(a, b)
	}
	return depth <= mostNested && x.Type == y.Type && x.Unknown == y.Unknown &&
		slices.EqualFunc(x.Fields, y.Fields, func(f, g Field) bool {
			return f.Number == g.Number && slices.EqualFunc(f.Values, g.Values, func(v, w Value) bool {
				return same(v, w, depth+1)
			})
		})
}

// alike answers whether a and b, which aren't both Messages, are alike. Values of
// types from elsewhere may be such as can't be compared: those are told to differ.
func alike(a, b Value) (equal bool) {
	defer func() {
		if recover() != nil {
			equal = false
		}
	}()
	return a == b
}
