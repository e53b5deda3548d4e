package json

import (
	"strconv"
	"strings"

	"orlop/api"
	"orlop/word"
)

// Write: a value written.
func Write(v api.Value) string {
	if !May(v) {
		return ""
	}
	var out strings.Builder
	write(&out, v)
	return out.String()
}

func write(out *strings.Builder, v api.Value) {
	switch v.Kind {
	case api.Null:
		out.WriteString("null")
	case api.Bool:
		out.WriteString(strconv.FormatBool(v.Bool))
	case api.Num:
		out.WriteString(number(v.Num))
	case api.Text:
		writeText(out, v.Text)
	case api.List:
		out.WriteString("[")
		for i, element := range v.List {
			part(out, i)
			write(out, element)
		}
		out.WriteString("]")
	case api.Map:
		out.WriteString("{")
		for i, m := range v.Map {
			part(out, i)
			writeText(out, m.Name)
			out.WriteString(":")
			write(out, m.Value)
		}
		out.WriteString("}")
	}
}

// part: what stands ahead of the part with this number.
func part(out *strings.Builder, i int) {
	if i > 0 {
		out.WriteString(",")
	}
}

func number(n int64) string { return strconv.FormatInt(n, 10) }

// writeText goes by bytes: no byte of a longer sign is one of those that are told by others.
func writeText(out *strings.Builder, text string) {
	out.WriteString(`"`)
	for i := range len(text) {
		switch c := text[i]; {
		case c == '"' || c == '\\':
			out.WriteByte('\\')
			out.WriteByte(c)
		case c < ' ':
			out.WriteString(`\u00` + word.Hex([]byte{c}))
		default:
			out.WriteByte(c)
		}
	}
	out.WriteString(`"`)
}
