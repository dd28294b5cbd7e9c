package stub

import (
	"strings"

	"courier/ident"
)

// maxMessageStub is how many runes the stub name of a message may have.
const maxMessageStub = 400

// found answers the rows whose methods' lines stand in text, and whether all their
// names are such as may be; it doesn't ask what else stands there.
func found(text string) ([]Row, bool) {
	var rows []Row
	for text != "" {
		line, rest, _ := strings.Cut(text, "\n")
		text = rest
		names, isMethod := strings.CutPrefix(line, aheadOfService)
		if !isMethod {
			continue
		}
		row, ok := rowIn(names)
		if !ok {
			return nil, false
		}
		row.ID = len(rows) + 1
		rows = append(rows, row)
	}
	return rows, true
}

// rowIn answers the row whose names stand in a method's line, behind its beginning.
func rowIn(line string) (Row, bool) {
	// Where something isn't found, the names behind it are empty, which none may be.
	service, line, _ := strings.Cut(line, behindService)
	method, line, _ := strings.Cut(line, behindMethod)
	in, line, _ := strings.Cut(line, behindIn)
	out, _, _ := strings.Cut(line, behindOut)
	if !camelName(service) || !camelName(method) || !messageName(in) || !messageName(out) {
		return Row{}, false
	}
	// Cut out of the text, they would share its memory.
	return Row{
		Service: strings.Clone(service),
		Method:  strings.Clone(method),
		In:      strings.Clone(in),
		Out:     strings.Clone(out),
	}, true
}

// camelName answers whether s may be the stub name of a service, or a method.
func camelName(s string) bool { return ident.Name(s) && !strings.Contains(s, "_") }

// messageName answers whether s may be the stub name of a message.
func messageName(s string) bool {
	count := 0
	// A byte that is no rune's comes as U+FFFD, which no name has.
	for _, r := range s {
		if count == maxMessageStub || !ident.Letter(r) && (count == 0 || !digitOrLine(r)) {
			return false
		}
		count++
	}
	return count > 0
}

// digitOrLine answers whether r is one of the runes that stand behind a letter alone.
func digitOrLine(r rune) bool { return r == '_' || '0' <= r && r <= '9' }
