package schema

import (
	"math"

	"courier/api"
	"courier/ident"
)

// Formed answers whether s is such a schema as Check may tell. Which declaration
// lies in which isn't asked: of a whole name, no part needs a table of its own.
func Formed(s api.Schema) bool {
	// How many there are is asked first, that nothing greater is gone through; and
	// rings last, when each Type is known to be a number of the schema.
	return len(s.Messages) <= api.MaxTypes && len(s.Enums) <= api.MaxTypes && len(s.Methods) <= api.MaxMethods &&
		typeNames(s) && formedMessages(s) && formedEnums(s.Enums) && formedMethods(s) && !anyRing(s.Messages)
}

// typeNames answers whether the names of messages and enums are paths, each there once.
func typeNames(s api.Schema) bool {
	names := set[string]{}
	for _, m := range s.Messages {
		if !path(m.Name) || !names.add(m.Name) {
			return false
		}
	}
	for _, e := range s.Enums {
		if !path(e.Name) || !names.add(e.Name) {
			return false
		}
	}
	return true
}

func formedMessages(s api.Schema) bool {
	for _, m := range s.Messages {
		if len(m.Fields) > api.MaxFields || !formedFields(s, m.Fields) {
			return false
		}
	}
	return true
}

func formedFields(s api.Schema, fields []api.FieldDef) bool {
	names := set[string]{}
	last := 0
	for _, f := range fields {
		if f.Number <= last || !fieldNumber(f.Number) || !name(f.Name) || !names.add(f.Name) || !formedType(s, f) {
			return false
		}
		last = f.Number
	}
	return true
}

// formedType answers whether a field's Kind is one, and its Type a number for it.
func formedType(s api.Schema, f api.FieldDef) bool {
	switch f.Kind {
	case api.Enum:
		return f.Type >= 0 && f.Type < len(s.Enums)
	case api.Message:
		return messageNumber(s, f.Type)
	}
	return f.Kind >= api.Int64 && f.Kind <= api.Fixed64 && f.Type == 0
}

func formedEnums(enums []api.EnumDef) bool {
	for _, e := range enums {
		// An enum without values has no first one that is 0.
		if len(e.Values) == 0 || e.Values[0].Number != 0 || !formedValues(e.Values) {
			return false
		}
	}
	return true
}

func formedValues(values []api.ValueDef) bool {
	names, numbers := set[string]{}, set[int]{}
	for _, v := range values {
		if v.Number < 0 || v.Number > math.MaxInt32 || !numbers.add(v.Number) || !name(v.Name) || !names.add(v.Name) {
			return false
		}
	}
	return true
}

func formedMethods(s api.Schema) bool {
	type pair struct{ service, name string }
	pairs := set[pair]{}
	for i, m := range s.Methods {
		if m.ID != i+1 || !name(m.Service) || !name(m.Name) || !pairs.add(pair{m.Service, m.Name}) {
			return false
		}
		if !messageNumber(s, m.In) || !messageNumber(s, m.Out) {
			return false
		}
	}
	return true
}

// anyRing answers whether a message needs itself.
func anyRing(messages []api.MessageDef) bool {
	for number := range messages {
		if inRing(messages, number) {
			return true
		}
	}
	return false
}

// messageNumber answers whether n is a message's number.
func messageNumber(s api.Schema, n int) bool { return n >= 0 && n < len(s.Messages) }

// name answers whether s is a name that isn't reserved.
func name(s string) bool { return ident.Name(s) && !ident.Reserved(s) }

// path answers whether s is a path.
func path(s string) bool {
	_, ok := ident.Path(s)
	return ok
}
