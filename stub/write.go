package stub

import (
	"strconv"
	"strings"
)

// What stands around the names in a method's line, by which Read finds them.
const (
	aheadOfService = "func (c "
	behindService  = "Client) "
	behindMethod   = "(in "
	behindIn       = ") ("
	behindOut      = ", Status)"
)

// written answers the text that is made of rows.
func written(rows []Row) string {
	var b strings.Builder
	b.WriteString("package stubs\n\n")
	service := ""
	for _, row := range rows {
		// A service whose rows stand apart comes again.
		if row.Service != service {
			service = row.Service
			b.WriteString("type " + service + "Client struct{ Caller }\n\n")
		}
		b.WriteString(methodLine(row) + "\n\n")
	}
	b.WriteString("func Dispatch(h Handlers, id int, in any) (any, Status) {\n\tswitch id {\n")
	for _, row := range rows {
		b.WriteString("\tcase " + strconv.Itoa(row.ID) + ":\n")
		b.WriteString("\t\treturn h." + row.Service + "_" + row.Method + "(in.(" + row.In + "))\n")
	}
	b.WriteString("\t}\n\treturn nil, Unimplemented\n}\n")
	return b.String()
}

// methodLine answers the line of a method of its service's client.
func methodLine(row Row) string {
	return aheadOfService + row.Service + behindService + row.Method + behindMethod + row.In + behindIn + row.Out + behindOut +
		" { return call[" + row.Out + "](c.Caller, " + strconv.Itoa(row.ID) + ", in) }"
}
