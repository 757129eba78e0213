package tokens

// signs: those of two bytes stand ahead of those that they begin with.
var signs = [...]string{
	":=", "=>", "..", "<=", ">=", "<>",
	"+", "-", "*", "/", "&", "=", "<", ">", "(", ")", "[", "]", ",", ";", ":", ".",
}

// IsReserved: may this word, in small letters, be no name?
func IsReserved(word string) bool {
	switch word {
	case "program", "end_program", "function", "end_function", "function_block", "end_function_block",
		"var", "var_input", "var_output", "var_external", "retain", "end_var", "array", "of",
		"bool", "int", "dint", "word", "time",
		"if", "then", "elsif", "else", "end_if", "case", "end_case",
		"for", "to", "by", "do", "end_for", "while", "max", "end_while", "repeat", "until", "end_repeat",
		"exit", "continue", "return", "or", "xor", "and", "mod", "not", "true", "false",
		"ladder", "end_ladder", "rung", "diagram", "end_diagram", "prev":
		return true
	}
	return false
}
