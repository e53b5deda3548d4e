package json_test

import (
	"strings"
	"testing"

	"orlop/api"
)

// opened: what opens n lists and maps in one another, as the letters of kinds say, in turn: l a list, m a map; s is what stands behind each.
func opened(kinds string, n int, blank string) string {
	var out strings.Builder
	for i := range n {
		if kinds[i%len(kinds)] == 'l' {
			out.WriteString("[" + blank)
		} else {
			out.WriteString("{" + blank + `"a"` + blank + ":" + blank)
		}
	}
	return out.String()
}

// closed: what closes them again.
func closed(kinds string, n int, blank string) string {
	var out strings.Builder
	for i := n - 1; i >= 0; i-- {
		out.WriteString(blank + string("]}"[strings.IndexByte("lm", kinds[i%len(kinds)])]))
	}
	return out.String()
}

// nested: the value of these, within it v.
func nested(kinds string, n int, v api.Value) api.Value {
	for i := n - 1; i >= 0; i-- {
		if kinds[i%len(kinds)] == 'l' {
			v = list(v)
		} else {
			v = object("a", v)
		}
	}
	return v
}

// turns: lists, maps, and both in turn.
var turns = []string{"l", "m", "lm", "ml", "llm", "mml"}

// P15.1: values within 14 to 18 others: at 15 they may begin, at 16 no more, whatever they are; nothing is counted where nothing lies within.
func TestDepth(t *testing.T) {
	values := map[string]api.Value{"null": null(), "true": truth(true), "0": num(0), "-12": num(-12), `""`: text(""), `"[[[[[[[[[[[[[[[[[["`: text("[[[[[[[[[[[[[[[[[["), "[]": list(), "{}": object(), "[ ]": list(), "{\n\t}": object()}
	for _, kinds := range turns {
		for _, blank := range append([]string{""}, blanks...) {
			for n := range 20 {
				for b, v := range values {
					b := opened(kinds, n, blank) + b + closed(kinds, n, blank)
					if n < deepest {
						reads(t, b, nested(kinds, n, v))
					} else {
						refuses(t, b, api.ErrLimit)
					}
				}
			}
		}
	}
}

// P15.1: the sixteenth list or map may be there, if it is closed at once, be it behind blanks; else a value would have to begin, whatever comes, and if nothing comes.
func TestTheSixteenth(t *testing.T) {
	for _, kinds := range turns {
		ahead, behind := opened(kinds, deepest-1, ""), closed(kinds, deepest-1, "")
		for _, blank := range append([]string{""}, blanks...) {
			reads(t, ahead+"["+blank+"]"+behind, nested(kinds, deepest-1, list()))
			reads(t, ahead+"{"+blank+"}"+behind, nested(kinds, deepest-1, object()))
			for _, within := range []string{"1", "null", `""`, "[]", "{}", "[", "{", `"`, `"a`, "x", "}", ",", ":", "-", "\x00", "\xff", "\ufeff", ",1", "1,", "01", ",]", "\x0b]"} {
				refuses(t, ahead+"["+blank+within, api.ErrLimit)
				refuses(t, ahead+"["+blank+within+"]"+behind, api.ErrLimit)
				refuses(t, ahead+`{"a"`+blank+":"+blank+within, api.ErrLimit)
				refuses(t, ahead+`{"a"`+blank+":"+blank+within+"}"+behind, api.ErrLimit)
			}
			refuses(t, ahead+"["+blank, api.ErrLimit)
			refuses(t, ahead+`{"a"`+blank+":"+blank, api.ErrLimit)
			refuses(t, ahead+`{"a":`+blank+"}"+behind, api.ErrLimit)
			refuses(t, ahead+"{"+blank, api.ErrFormat)
		}
		refuses(t, ahead, api.ErrFormat)
		refuses(t, opened(kinds, deepest, ""), api.ErrLimit)
		refuses(t, opened(kinds, deepest+1, ""), api.ErrLimit)
	}
}

// P15.1: within the sixteenth map, what is wrong ahead of the : counts.
func TestTheSixteenthMapsName(t *testing.T) {
	for _, kinds := range turns {
		ahead, behind := opened(kinds, deepest-1, ""), closed(kinds, deepest-1, "")
		for _, within := range []string{"x", "1:1", "null:1", "[]:1", "{}:1", ":1", ",", "]", `"a`, `"a"`, `"a" 1`, `"a",`, `"a"}`, `"a"x:1`, `"a";1`, `"a"=1`, "'a':1", `"\q":1`, "\"\n\":1", "\"\xff\":1", `"\ud800":1`, "\x0b\"a\":1", "\"a\"\x0c:1", `a:1`} {
			refuses(t, ahead+"{"+within+"}"+behind, api.ErrFormat)
			refuses(t, ahead+"{ "+within, api.ErrFormat)
		}
		for _, within := range []string{`"":1`, `"a":`, `"a":1,"a":1`, `"a"::1`, `"a":1 "b":1`, `"\u0061":[]`, `"a":x`, `"a":,`} {
			refuses(t, ahead+"{"+within+"}"+behind, api.ErrLimit)
			refuses(t, ahead+"{\n"+within, api.ErrLimit)
		}
	}
}

// wrongs: each is wrong where a part of a list stands, wherever within others.
var wrongs = []string{"x", "01", "-0", "1.5", "9007199254740992", `"\q"`, `"\ud800"`, `"\ud800\u0041"`, "\"\xff\"", "\"\n\"", "\x00", "\xa0", "nul", "1 1", "[1,]", "[,]", "[}", "{]", `{"a"}`, `{"a":}`, `{"a":1,}`, `{1:1}`, `{"a":1,"a":1}`, `{"a":1,"\u0061":1}`, `{"":[],"":[]}`, "{,}", "//", "}"}

// P15.1: of two wrong things the first one in the text counts.
func TestTheFirstOfTwoWrongThings(t *testing.T) {
	for _, kinds := range turns {
		deep := opened(kinds, deepest+1, "") + "1" + closed(kinds, deepest+1, "")
		reads(t, opened(kinds, deepest-2, "")+"1"+closed(kinds, deepest-2, ""), nested(kinds, deepest-2, num(1)))
		refuses(t, deep, api.ErrLimit)
		for _, bad := range wrongs {
			refuses(t, bad+deep, api.ErrFormat)
			refuses(t, "["+bad+","+deep+"]", api.ErrFormat)
			refuses(t, "[1,"+bad+","+deep, api.ErrFormat)
			refuses(t, `{"x":`+bad+`,"y":`+deep+"}", api.ErrFormat)
			refuses(t, opened(kinds, deepest-4, "")+"["+bad+",[[[[", api.ErrFormat)
			refuses(t, deep+bad, api.ErrLimit)
			refuses(t, "["+deep+","+bad+"]", api.ErrLimit)
			refuses(t, "["+deep+bad, api.ErrLimit)
			refuses(t, `{"x":`+deep+`,"y":`+bad+"}", api.ErrLimit)
			refuses(t, opened(kinds, deepest, "")+bad+closed(kinds, deepest, ""), api.ErrLimit)
			refuses(t, strings.Replace(deep, "1", bad, 1), api.ErrLimit)
		}
		for _, form := range []string{"1 %s", "1%s", `{"a" %s`, `{"a"%s`, `{%s:1}`, `{1:%s`, `["\q%s`, "\ufeff%s", "x%s", "\x0b%s", ",%s", "[1 %s", "[1;%s", `{"a":1,%s`, `{"a":1,"a":%s}`, `{"a":1,"b":2,"a":%s}`, `{"a":1,"\u0061":%s`, `{"":0,"":%s}`, `[{"a":[],"a":%s`, `{"x":{"a":0},"y":{"a":{},"a":%s`, `"%s`, `[]%s`, `{}%s`, `[]]%s`, `{"a":1}}%s`} {
			refuses(t, strings.Replace(form, "%s", deep, 1), api.ErrFormat)
		}
		for _, form := range []string{`{"a":%s,"a":1}`, `[{"a":%s,"a":%s`, `{"x":{"a":0},"a":%s`, `[1,%s`, `{"a":1,"b":%s`, `[%s x`, `%s]`, `%s %s`, "%s\xff", `[[],%s`, `[{},{},[%s`, ` %s`, "\t\r\n%s"} {
			refuses(t, strings.ReplaceAll(form, "%s", deep), api.ErrLimit)
		}
		refuses(t, deep[:len(deep)-1], api.ErrLimit)
		refuses(t, deep+"]", api.ErrLimit)
	}
}

// P15.1: far too deep a text, which is read no further than it must be.
func TestFarTooDeep(t *testing.T) {
	for _, kinds := range turns {
		for _, n := range []int{17, 18, 32, 100, 1000, 9000} {
			refuses(t, opened(kinds, n, ""), api.ErrLimit)
			refuses(t, opened(kinds, n, "")+closed(kinds, n, ""), api.ErrLimit)
		}
	}
	refuses(t, strings.Repeat("[", longest), api.ErrLimit)
	refuses(t, strings.Repeat("{", longest), api.ErrFormat)
	refuses(t, strings.Repeat("]", longest), api.ErrFormat)
	refuses(t, strings.Repeat("[{", longest/2), api.ErrFormat)
}

// fill: a text, with blanks behind it up to n bytes.
func fill(b string, n int) string { return b + strings.Repeat(" ", n-len(b)) }

// P15.1: rows of MaxJSON bytes are read as all others.
func TestTheLongestRows(t *testing.T) {
	for _, n := range []int{longest - 2, longest - 1, longest} {
		letters := strings.Repeat("a", n-2)
		reads(t, `"`+letters+`"`, text(letters))
		reads(t, `{"`+letters[4:]+`":1}`, object(letters[4:], num(1)))
		reads(t, fill("null", n), null())
		reads(t, strings.Repeat("\n", n-4)+"true", truth(true))
		reads(t, fill("[", n-1)+"]", list())
		reads(t, fill("[1", n-2)+"] ", list(num(1)))
		for _, bad := range wrongs {
			refuses(t, fill(bad, n), api.ErrFormat)
			refuses(t, "["+fill("1,", n-len(bad)-1)+bad, api.ErrFormat)
		}
		refuses(t, strings.Repeat("\x00", n), api.ErrFormat)
		refuses(t, `"`+letters+"a", api.ErrFormat)
		refuses(t, `"`+letters+"\n", api.ErrFormat)
		refuses(t, fill(strings.Repeat("[", 17), n), api.ErrLimit)
		refuses(t, strings.Repeat("1", n), api.ErrFormat)
		refuses(t, strings.Repeat(`\`, n), api.ErrFormat)
		refuses(t, `"`+strings.Repeat(`\`, n-1), api.ErrFormat)
	}
	many := list()
	for range (longest - 1) / 3 {
		many.List = append(many.List, object())
	}
	reads(t, textOf(many), many)
	ones := list()
	for range (longest - 1) / 2 {
		ones.List = append(ones.List, num(7))
	}
	reads(t, textOf(ones), ones)
	reads(t, `"`+strings.Repeat(`\u0000`, (longest-2)/6)+`"`, text(strings.Repeat("\x00", (longest-2)/6)))
	reads(t, `"`+strings.Repeat(`\n`, (longest-2)/2)+`"`, text(strings.Repeat("\n", (longest-2)/2)))
}

// P15.1: one byte more is too many, whatever the bytes are.
func TestRowsThatAreTooLong(t *testing.T) {
	for _, n := range []int{longest + 1, longest + 2, longest + 100, 2 * longest, 1 << 20} {
		letters := strings.Repeat("a", n-2)
		for _, b := range []string{
			`"` + letters + `"`, `{"` + letters[4:] + `":1}`, fill("null", n), strings.Repeat(" ", n-2) + "{}", fill("[", n-1) + "]", fill("1", n), strings.Repeat("1", n), fill("", n),
			strings.Repeat("\x00", n), strings.Repeat("\xff", n), strings.Repeat("[", n), strings.Repeat("{", n), strings.Repeat("]", n), `"` + letters + "a", `"` + letters + "\n", fill(strings.Repeat("[", 17), n),
		} {
			refuses(t, b, api.ErrLimit)
		}
		for _, bad := range wrongs {
			refuses(t, fill(bad, n), api.ErrLimit)
			refuses(t, strings.Repeat(" ", n-len(bad))+bad, api.ErrLimit)
		}
	}
}
