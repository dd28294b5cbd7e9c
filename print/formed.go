package print

import (
	"math"

	"courier/api"
	"courier/ident"
	"courier/parse"
)

// Layer 5's kinds of declarations.
const (
	isMessage = iota + 1
	isEnum
	isService
)

// Formed answers whether the declarations of list, but for places, are such as
// layer 5 reads. How long a text of them is doesn't count: that is asked of the
// text itself, and is an error of its own.
func Formed(list []parse.Decl) bool { return allFormed(list, 0) }

// allFormed answers whether those of list, which lie in depth messages, are formed.
func allFormed(list []parse.Decl, depth int) bool {
	return all(list, func(d parse.Decl) bool { return name(d.Name) && body(d, depth) })
}

// body answers whether d, which lies in depth messages, has just what its kind may have.
func body(d parse.Decl, depth int) bool {
	fields, values, methods, inner := len(d.Fields), len(d.Values), len(d.Methods), len(d.Inner)
	switch d.Kind {
	case isMessage:
		// The depth is asked ahead of what lies in d, which may go down without an end.
		return depth < api.MaxNest && values == 0 && methods == 0 &&
			all(d.Fields, field) && allFormed(d.Inner, depth+1)
	case isEnum:
		return fields == 0 && methods == 0 && inner == 0 && all(d.Values, value)
	case isService:
		return depth == 0 && fields == 0 && values == 0 && inner == 0 && all(d.Methods, method)
	}
	return false
}

// all answers whether ok holds for each of list.
func all[T any](list []T, ok func(T) bool) bool {
	for _, one := range list {
		if !ok(one) {
			return false
		}
	}
	return true
}

func field(f parse.Field) bool { return fieldType(f.Type) && name(f.Name) && number(f.Number) }

func value(v parse.Value) bool { return name(v.Name) && number(v.Number) }

func method(m parse.Method) bool { return name(m.Name) && path(m.In) && path(m.Out) }

// name answers whether s is a NAME.
func name(s string) bool { return ident.Name(s) && !ident.Reserved(s) }

// path answers whether s is a PATH, written as layer 5 answers it.
func path(s string) bool {
	_, ok := ident.Path(s)
	return ok
}

// fieldType answers whether s is the type of a field.
func fieldType(s string) bool {
	switch s {
	case "int64", "uint64", "sint64", "bool", "string", "bytes", "fixed32", "fixed64":
		return true
	}
	return path(s)
}

// number answers whether n is a NUMBER: the greatest word of digits is 2147483647.
func number(n int) bool { return n >= 0 && n <= math.MaxInt32 }
