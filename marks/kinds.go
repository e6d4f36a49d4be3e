package marks

import (
	"fathom/api"
	"fathom/gauss"
)

// The longer signs stand ahead, so that the first one that fits is the longest.
var signs = [...]string{"->", "==", "(", ")", ",", ":", ";", "=", "+", "-", "*", "/", "<", "|"}

func isBlank(c byte) bool { return c == '\t' || c == '\n' || c == '\r' || c == ' ' }

func isLetter(c byte) bool { return 'A' <= c && c <= 'Z' || 'a' <= c && c <= 'z' }

func isDigit(c byte) bool { return '0' <= c && c <= '9' }

func inRun(c byte) bool { return isLetter(c) || isDigit(c) || c == '_' }

// runMark is the mark that a run is, if it is one; a run has at least one byte.
func runMark(run string, at int) (api.Mark, bool) {
	mark := api.Mark{Kind: api.MarkName, Text: run, At: at}
	switch {
	case Reserved(run):
		mark.Kind = api.MarkWord
	case isDigit(run[0]):
		number, e := gauss.Parse(run)
		if e != api.OK {
			return api.Mark{}, false
		}
		mark.Kind, mark.Num = api.MarkNumber, number
	case !isLetter(run[0]):
		return api.Mark{}, false
	}
	return mark, true
}

// signMark is the longest sign that stands at a place of the text, if one does.
func signMark(text []byte, at int) (api.Mark, bool) {
	for _, sign := range signs {
		end := at + len(sign)
		if end <= len(text) && string(text[at:end]) == sign {
			return api.Mark{Kind: api.MarkSign, Text: sign, At: at}, true
		}
	}
	return api.Mark{}, false
}
