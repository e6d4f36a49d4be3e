package marks

// The reserved words, by their bytes.
var reserved = [...]string{
	"B", "L", "N", "case", "conj", "else", "fail", "false", "if", "im", "in", "let", "nil", "not", "of", "re", "strict",
	"then", "true",
}

// Reserved: is it a reserved word?
func Reserved(s string) bool {
	for _, word := range reserved {
		if word == s {
			return true
		}
	}
	return false
}

// Words: the reserved ones, by their bytes.
func Words() []string {
	// The array is copied, so that who writes into the answer leaves the table as it is.
	all := reserved
	return all[:]
}
