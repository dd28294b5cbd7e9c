package parse

import (
	"strconv"

	"courier/api"
	"courier/ident"
	"courier/lex"
)

// Layer 4's kinds of words that are asked for here; all others are told by their texts.
const (
	nameWord   = 1
	numberWord = 2
)

// reader goes along the words of a text. Its methods tell by a bool whether they
// found what they read; the first that didn't has kept the fault, and none goes
// on behind it.
type reader struct {
	words []lex.Word // those that aren't read yet
	end   api.Pos    // behind the text's last rune
	at    api.Pos    // the fault's place
	err   api.Errno
}

// text answers the next word's text; "", which no word has, if there is none.
func (r *reader) text() string {
	if len(r.words) == 0 {
		return ""
	}
	return r.words[0].Text
}

// place answers where the next word stands, or should stand.
func (r *reader) place() api.Pos {
	if len(r.words) == 0 {
		return r.end
	}
	return r.words[0].At
}

// fail keeps a fault, and answers false for its caller to hand on.
func (r *reader) fail(at api.Pos, err api.Errno) bool {
	r.at, r.err = at, err
	return false
}

// refuse keeps the fault that what came can't go on with the next word.
func (r *reader) refuse() bool { return r.fail(r.place(), api.ErrSyntax) }

// skip goes behind the next word, if that is text; that it isn't is no fault.
func (r *reader) skip(text string) bool {
	if r.text() != text {
		return false
	}
	r.words = r.words[1:]
	return true
}

// want reads the word text.
func (r *reader) want(text string) bool { return r.skip(text) || r.refuse() }

// name reads a NAME, and where it stands.
func (r *reader) name(name *string, at *api.Pos) bool {
	if len(r.words) == 0 || r.words[0].Kind != nameWord || ident.Reserved(r.text()) {
		return r.refuse()
	}
	*name, *at = r.text(), r.place()
	r.words = r.words[1:]
	return true
}

// number reads a NUMBER.
func (r *reader) number(n *int) bool {
	if len(r.words) == 0 || r.words[0].Kind != numberWord {
		return r.refuse()
	}
	// Layer 4's numbers all fit an int.
	*n, _ = strconv.Atoi(r.text())
	r.words = r.words[1:]
	return true
}

// path reads a PATH.
func (r *reader) path(path *string) bool {
	first := r.place()
	var name string
	var at api.Pos
	for count := 1; r.name(&name, &at); count++ {
		// Asked right here: where the path begins is ahead of all faults further on.
		if count > api.MaxNest {
			return r.fail(first, api.ErrDeep)
		}
		*path += name
		if !r.skip(".") {
			return true
		}
		*path += "."
	}
	return false
}

// fieldType reads a field's type.
func (r *reader) fieldType(name *string) bool {
	switch word := r.text(); word {
	case "int64", "uint64", "sint64", "bool", "string", "bytes", "fixed32", "fixed64":
		*name = word
		return r.want(word)
	}
	return r.path(name)
}

// declaration reads a declaration that lies in nothing.
func (r *reader) declaration() (Decl, bool) {
	switch r.text() {
	case "message":
		return r.message(1)
	case "enum":
		return r.enum()
	case "service":
		return r.service()
	}
	return Decl{}, r.refuse()
}

// head reads a declaration's beginning, up to its {.
func (r *reader) head(d *Decl, word string) bool {
	return r.want(word) && r.name(&d.Name, &d.At) && r.want("{")
}

// message reads a message; depth is how deep it lies.
func (r *reader) message(depth int) (Decl, bool) {
	d := Decl{Kind: isMessage}
	if depth > api.MaxNest {
		return d, r.fail(r.place(), api.ErrDeep)
	}
	ok := r.head(&d, "message")
	for ok && !r.skip("}") {
		ok = r.member(&d, depth)
	}
	return d, ok
}

// member reads what lies in the message d: a message, an enum or a field.
func (r *reader) member(d *Decl, depth int) bool {
	var inner Decl
	var ok bool
	switch r.text() {
	case "message":
		inner, ok = r.message(depth + 1)
	case "enum":
		inner, ok = r.enum()
	default:
		return r.field(d)
	}
	d.Inner = append(d.Inner, inner)
	return ok
}

// field reads a field of the message d.
func (r *reader) field(d *Decl) bool {
	f := Field{Repeated: r.skip("repeated")}
	ok := r.fieldType(&f.Type) && r.name(&f.Name, &f.At) &&
		r.want("=") && r.number(&f.Number) && r.want(";")
	d.Fields = append(d.Fields, f)
	return ok
}

// enum reads an enum.
func (r *reader) enum() (Decl, bool) {
	d := Decl{Kind: isEnum}
	ok := r.head(&d, "enum")
	for ok && !r.skip("}") {
		var v Value
		ok = r.name(&v.Name, &v.At) && r.want("=") && r.number(&v.Number) && r.want(";")
		d.Values = append(d.Values, v)
	}
	return d, ok
}

// service reads a service.
func (r *reader) service() (Decl, bool) {
	d := Decl{Kind: isService}
	ok := r.head(&d, "service")
	for ok && !r.skip("}") {
		var m Method
		ok = r.want("rpc") && r.name(&m.Name, &m.At) && r.bracketed(&m.In) &&
			r.want("returns") && r.bracketed(&m.Out) && r.want(";")
		d.Methods = append(d.Methods, m)
	}
	return d, ok
}

// bracketed reads a PATH in ( and ).
func (r *reader) bracketed(path *string) bool {
	return r.want("(") && r.path(path) && r.want(")")
}
