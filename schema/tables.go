package schema

import (
	"cmp"
	"slices"
	"strings"

	"courier/api"
	"courier/parse"
	"courier/scope"
)

// builder makes the tables of declarations, whose names and numbers are right.
type builder struct {
	types   []parse.Decl   // those that a path may lead into
	numbers map[string]int // by whole names: of a message among messages, of an enum among enums
	schema  api.Schema
}

// tables is the round of ErrType; if it finds no fault, it answers the schema. NAMEs
// are cloned for it: an answer shares no memory with what came in. Whole names are
// new already, as All has made them.
func tables(list []parse.Decl, all []declared) (api.Schema, api.Pos, bool) {
	b := builder{types: withoutServices(list), numbers: numbered(all)}
	for _, d := range all {
		var at api.Pos
		var found bool
		switch d.Kind {
		case isMessage:
			at, found = b.message(d)
		case isEnum:
			b.enum(d)
		case isService:
			at, found = b.service(d)
		}
		if found {
			return api.Schema{}, at, true
		}
	}
	return b.schema, api.Pos{}, false
}

// withoutServices answers those of list that may be meant: the services, of which
// there may be any number, would only be in the way each time a path is looked for.
func withoutServices(list []parse.Decl) []parse.Decl {
	var out []parse.Decl
	for _, d := range list {
		if d.Kind != isService {
			out = append(out, d)
		}
	}
	return out
}

// numbered answers the messages' and the enums' numbers in the schema.
func numbered(all []declared) map[string]int {
	numbers := map[string]int{}
	messages, enums := 0, 0
	for _, d := range all {
		switch d.Kind {
		case isMessage:
			numbers[d.whole] = messages
			messages++
		case isEnum:
			numbers[d.whole] = enums
			enums++
		}
	}
	return numbers
}

// message adds a message's table, or answers the place of its first field with a wrong type.
func (b *builder) message(d declared) (api.Pos, bool) {
	def := api.MessageDef{Name: d.whole}
	for _, f := range d.Fields {
		kind, number, ok := b.fieldType(d.whole, f.Type)
		if !ok {
			return f.At, true
		}
		def.Fields = append(def.Fields, api.FieldDef{
			Number: f.Number, Name: strings.Clone(f.Name), Kind: kind, Repeated: f.Repeated, Type: number,
		})
	}
	slices.SortFunc(def.Fields, func(x, y api.FieldDef) int { return cmp.Compare(x.Number, y.Number) })
	b.schema.Messages = append(b.schema.Messages, def)
	return api.Pos{}, false
}

// enum adds an enum's table.
func (b *builder) enum(d declared) {
	def := api.EnumDef{Name: d.whole}
	for _, v := range d.Values {
		def.Values = append(def.Values, api.ValueDef{Name: strings.Clone(v.Name), Number: v.Number})
	}
	b.schema.Enums = append(b.schema.Enums, def)
}

// service adds a service's methods, or answers the place of the first one with a wrong type.
func (b *builder) service(d declared) (api.Pos, bool) {
	for _, m := range d.Methods {
		in, ok := b.methodType(m.In)
		if !ok {
			return m.At, true
		}
		out, ok := b.methodType(m.Out)
		if !ok {
			return m.At, true
		}
		b.schema.Methods = append(b.schema.Methods, api.MethodDef{
			ID: len(b.schema.Methods) + 1, Service: strings.Clone(d.Name), Name: strings.Clone(m.Name), In: in, Out: out,
		})
	}
	return api.Pos{}, false
}

// fieldType answers the Kind and the Type of a field, in the message of a whole name.
func (b *builder) fieldType(whole, name string) (kind, number int, ok bool) {
	if kind := plainKind(name); kind > 0 {
		return kind, 0, true
	}
	symbol, ok := scope.Find(b.types, whole, name)
	if !ok {
		return 0, 0, false
	}
	kind = api.Enum
	if symbol.Kind == isMessage {
		kind = api.Message
	}
	return kind, b.numbers[symbol.Name], true
}

// methodType answers the number of the message that a method's path means.
func (b *builder) methodType(path string) (int, bool) {
	symbol, ok := scope.Find(b.types, "", path)
	if !ok || symbol.Kind != isMessage {
		return 0, false
	}
	return b.numbers[symbol.Name], true
}

// plainKind answers the Kind of a type that is a word of its own; 0, if it is a path.
func plainKind(word string) int {
	switch word {
	case "int64":
		return api.Int64
	case "uint64":
		return api.Uint64
	case "sint64":
		return api.Sint64
	case "bool":
		return api.Bool
	case "string":
		return api.Text
	case "bytes":
		return api.Bytes
	case "fixed32":
		return api.Fixed32
	case "fixed64":
		return api.Fixed64
	}
	return 0
}
