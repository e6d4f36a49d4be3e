package value

import (
	"strings"

	"fathom/api"
	"fathom/gauss"
)

const (
	trueText  = "true"
	falseText = "false"
	opening   = "["
	closing   = "]"
	blank     = " "
)

// Text: of a value. ErrShape.
func Text(v api.Value) (string, api.Errno) {
	if !sound(v) {
		return "", api.ErrShape
	}
	switch v.Type {
	case api.TypeN:
		return gauss.Text(v.Num)
	case api.TypeB:
		return boolText(v.Bool), api.OK
	}
	return listText(v.List), api.OK
}

func boolText(is bool) string {
	if is {
		return trueText
	}
	return falseText
}

func listText(list []complex128) string {
	var text strings.Builder
	text.WriteString(opening)
	for i, z := range list {
		if i > 0 {
			text.WriteString(blank)
		}
		number, _ := gauss.Text(z)
		text.WriteString(number)
	}
	text.WriteString(closing)
	return text.String()
}

// Parse: the value of a text. ErrValue.
func Parse(s string) (api.Value, api.Errno) {
	switch s {
	case trueText:
		return api.Value{Type: api.TypeB, Bool: true}, api.OK
	case falseText:
		return api.Value{Type: api.TypeB}, api.OK
	}
	if rest, opens := strings.CutPrefix(s, opening); opens {
		return parseList(rest)
	}
	z, e := gauss.Parse(s)
	if e != api.OK {
		return api.Value{}, api.ErrValue
	}
	return api.Value{Type: api.TypeN, Num: z}, api.OK
}

// parseList takes the text of a list from behind its opening bracket on.
//
// A bracket inside, or a blank too many, leaves an element whose text is that of no number.
func parseList(s string) (api.Value, api.Errno) {
	inner, closes := strings.CutSuffix(s, closing)
	if !closes {
		return api.Value{}, api.ErrValue
	}
	var list []complex128
	for more := inner != ""; more; {
		var element string
		element, inner, more = strings.Cut(inner, blank)
		z, e := gauss.Parse(element)
		if e != api.OK {
			return api.Value{}, api.ErrValue
		}
		list = append(list, z)
	}
	return api.Value{Type: api.TypeL, List: list}, api.OK
}

// Split: the values of a line. ErrValue.
func Split(s string) ([]api.Value, api.Errno) {
	var values []api.Value
	for s = skipBlanks(s); s != ""; s = skipBlanks(s) {
		end := endOfFirst(s)
		if end < len(s) && !strings.HasPrefix(s[end:], blank) {
			return nil, api.ErrValue
		}
		v, e := Parse(s[:end])
		if e != api.OK {
			return nil, e
		}
		values = append(values, v)
		s = s[end:]
	}
	return values, api.OK
}

func skipBlanks(s string) string { return strings.TrimLeft(s, blank) }

// endOfFirst is where the first value's text can only end, if one stands at the front: a list's behind its first
// closing bracket, since none has another inside, any other's ahead of a blank.
func endOfFirst(s string) int {
	if !strings.HasPrefix(s, opening) {
		if at := strings.Index(s, blank); at >= 0 {
			return at
		}
		return len(s)
	}
	if at := strings.Index(s, closing); at >= 0 {
		return at + len(closing)
	}
	return len(s)
}
