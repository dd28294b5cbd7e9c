package schema

import (
	"courier/api"
	"courier/parse"
	"courier/scope"
)

// Layer 5's kinds of declarations.
const (
	isMessage = iota + 1
	isEnum
	isService
)

// declared is a declaration with its whole name.
type declared struct {
	parse.Decl
	whole string
}

// inOrder answers all declarations, in the order of All.
func inOrder(list []parse.Decl) []declared {
	symbols := scope.All(list)
	all := make([]declared, len(symbols))
	for i, d := range flat(nil, list) {
		all[i] = declared{Decl: d, whole: symbols[i].Name}
	}
	return all
}

// flat answers out and behind it the declarations of list, each ahead of those that lie in it.
func flat(out, list []parse.Decl) []parse.Decl {
	for _, d := range list {
		out = flat(append(out, d), d.Inner)
	}
	return out
}

// set is what has come by now.
type set[K comparable] map[K]struct{}

// add puts key into the set, and answers whether it wasn't there yet.
func (s set[K]) add(key K) bool {
	before := len(s)
	s[key] = struct{}{}
	return len(s) > before
}

// Each round answers the place of its first fault, if it finds one, and leans on
// what the rounds ahead of it have found to be right.

// oneTooMany is the round of ErrLong.
func oneTooMany(all []declared) (api.Pos, bool) {
	messages, enums, methods := 0, 0, 0
	for _, d := range all {
		switch d.Kind {
		case isMessage:
			messages++
		case isEnum:
			enums++
		}
		if messages > api.MaxTypes || enums > api.MaxTypes {
			return d.At, true
		}
		if len(d.Fields) > api.MaxFields {
			return d.Fields[api.MaxFields].At, true
		}
		// Methods are counted in all services together.
		if left := api.MaxMethods - methods; len(d.Methods) > left {
			return d.Methods[left].At, true
		}
		methods += len(d.Methods)
	}
	return api.Pos{}, false
}

// wrongName is the round of ErrName.
func wrongName(all []declared) (api.Pos, bool) {
	names := set[string]{}
	for _, d := range all {
		// Whole names serve, since no NAME has a dot in it: two that are alike but lie
		// in two declarations lie in two of one NAME, which are asked ahead of them.
		if !names.add(d.whole) {
			return d.At, true
		}
		if at, found := wrongNameIn(d.Decl); found {
			return at, true
		}
	}
	return api.Pos{}, false
}

// wrongNameIn answers the first of d's fields, values or methods, of which d has
// one sort alone, that is the second one of its NAME.
func wrongNameIn(d parse.Decl) (api.Pos, bool) {
	names := set[string]{}
	// What lies in d goes first, so that of a field and one of these the field is the
	// second one. Two of these with one NAME are told where they are asked themselves.
	for _, inner := range d.Inner {
		names.add(inner.Name)
	}
	for _, f := range d.Fields {
		if !names.add(f.Name) {
			return f.At, true
		}
	}
	for _, v := range d.Values {
		if !names.add(v.Name) {
			return v.At, true
		}
	}
	for _, m := range d.Methods {
		if !names.add(m.Name) {
			return m.At, true
		}
	}
	return api.Pos{}, false
}

// wrongNumber is the round of ErrNumber.
func wrongNumber(all []declared) (api.Pos, bool) {
	for _, d := range all {
		if d.Kind == isEnum && len(d.Values) == 0 {
			return d.At, true
		}
		numbers := set[int]{}
		for _, f := range d.Fields {
			if !fieldNumber(f.Number) || !numbers.add(f.Number) {
				return f.At, true
			}
		}
		for i, v := range d.Values {
			if i == 0 && v.Number != 0 || !numbers.add(v.Number) {
				return v.At, true
			}
		}
	}
	return api.Pos{}, false
}

// The numbers from firstKept to lastKept are no field's.
const (
	firstKept = 19000
	lastKept  = 19999
)

// fieldNumber answers whether a field may have the number n.
func fieldNumber(n int) bool {
	return n >= 1 && n <= api.MaxField && (n < firstKept || n > lastKept)
}

// needsItself is the round of ErrCycle; messages are those of all.
func needsItself(messages []api.MessageDef, all []declared) (api.Pos, bool) {
	number := 0
	for _, d := range all {
		if d.Kind != isMessage {
			continue
		}
		if inRing(messages, number) {
			return d.At, true
		}
		number++
	}
	return api.Pos{}, false
}

// inRing answers whether the message of that number needs itself.
func inRing(messages []api.MessageDef, number int) bool {
	seen := make([]bool, len(messages))
	waiting := []int{number}
	for len(waiting) > 0 {
		m := messages[waiting[len(waiting)-1]]
		waiting = waiting[:len(waiting)-1]
		for _, f := range m.Fields {
			if f.Kind != api.Message || f.Repeated || seen[f.Type] {
				continue
			}
			if f.Type == number {
				return true
			}
			seen[f.Type] = true
			waiting = append(waiting, f.Type)
		}
	}
	return false
}
