package scan

import (
	"strconv"
	"strings"

	"vellum/api"
	"vellum/isa"
)

// Text returns a listing as text.
func Text(i api.Image, l api.Listing) string {
	var p page
	addLine := p.addLine
	for n := range l.Routines {
		writeRoutine(addLine, l.Routines[n])
	}
	writeIssues(addLine, "", l.Issues)
	return p.text.String()
}

// page is text that consists of lines.
type page struct{ text strings.Builder }

// addLine adds a line that consists of parts.
func (p *page) addLine(parts ...string) {
	for _, part := range parts {
		p.text.WriteString(part)
	}
	p.text.WriteByte('\n')
}

// writeRoutine writes the lines of a routine.
func writeRoutine(addLine func(...string), r api.Routine) {
	if r.Thunk {
		addLine("thunk ", placeText(r.Entry), " -> ", placeText(r.To))
	} else {
		addLine("routine ", placeText(r.Entry))
	}
	for _, item := range r.Code {
		addLine("  ", placeText(item.At), " ", isa.Line(item.Ins, item.At))
	}
	writeIssues(addLine, "  ", r.Issues)
}

// writeIssues writes a line for each issue.
func writeIssues(addLine func(...string), indent string, issues []api.Issue) {
	for _, issue := range issues {
		addLine(indent, "! ", strconv.Itoa(int(issue.Kind)), " ", placeText(issue.At))
	}
}

// placeText returns a place as its bank and its address with four hexadecimal digits.
func placeText(p api.Place) string {
	digits := strconv.FormatUint(uint64(p.Addr), 16)
	return strconv.Itoa(p.Bank) + ":0x" + strings.Repeat("0", 4-len(digits)) + digits
}
