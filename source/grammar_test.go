package source_test

import (
	"fmt"
	"math/rand"
	"slices"
	"strings"
	"testing"

	"plantwright/api"
	"plantwright/source"
)

// grammar is the document's, but that a max right ahead of a bracket is a token MAXCALL.
const grammar = `
text = unit { unit }
unit = PROGRAM name heads list END_PROGRAM | FUNCTION name ":" kind heads list END_FUNCTION | FUNCTION_BLOCK name heads list END_FUNCTION_BLOCK
heads = { ( VAR | VAR RETAIN | VAR_INPUT | VAR_OUTPUT | VAR_EXTERNAL ) { decl } END_VAR }
decl = name { "," name } ":" type [ ":=" first ] ";"
type = kind | ARRAY "[" const ".." const "]" OF kind | name
kind = BOOL | INT | DINT | WORD | TIME
first = const | TRUE | FALSE | time
const = [ "-" ] number
list = { stmt }
stmt = name ":=" expr ";" | name "[" expr "]" ":=" expr ";" | name "(" [ arg { "," arg } ] ")" ";" | IF expr THEN list { ELSIF expr THEN list } [ ELSE list ] END_IF ";" | CASE expr OF label { "," label } ":" list { label { "," label } ":" list } [ ELSE list ] END_CASE ";" | FOR name ":=" const TO const [ BY const ] DO list END_FOR ";" | WHILE expr most number DO list END_WHILE ";" | REPEAT list UNTIL expr most number END_REPEAT ";" | EXIT ";" | CONTINUE ";" | RETURN ";"
most = MAX | MAXCALL
arg = name ":=" expr | name "=>" name
label = const [ ".." const ]
expr = xors { OR xors }
xors = ands { XOR ands }
ands = same { ( AND | "&" ) same }
same = order { ( "=" | "<>" ) order }
order = sum { ( "<" | ">" | "<=" | ">=" ) sum }
sum = prod { ( "+" | "-" ) prod }
prod = unary { ( "*" | "/" | MOD ) unary }
unary = NOT unary | "-" unary | basic
basic = number | time | TRUE | FALSE | name | name "[" expr "]" | name "." name | name "(" expr { "," expr } ")" | "(" expr ")" | MAXCALL "(" expr { "," expr } ")"
`

// rules of a grammar: of each part the ways to write it, each a list of parts and tokens.
type rules map[string][][]string

func readRules() rules {
	g := rules{}
	for _, line := range strings.Split(strings.TrimSpace(grammar), "\n") {
		l := strings.Fields(line)
		rest := g.either(l[0], l[2:])
		if len(rest) > 0 {
			panic(line)
		}
	}
	return g
}

// either reads ways up to a bracket that shuts, and gives them a name.
func (g rules) either(name string, l []string) []string {
	way := []string{}
	for len(l) > 0 && !strings.Contains("}])", l[0]) {
		switch l[0] {
		case "|":
			g[name] = append(g[name], way)
			way, l = []string{}, l[1:]
		case "{", "[", "(":
			inner := fmt.Sprintf("part%d", len(g))
			g[inner] = [][]string{}
			open := l[0]
			l = g.either(inner, l[1:])[1:]
			if open != "(" {
				maybe := fmt.Sprintf("part%d", len(g))
				g[maybe] = [][]string{{}, {inner}}
				if open == "{" {
					g[maybe] = [][]string{{}, {maybe, inner}}
				}
				inner = maybe
			}
			way = append(way, inner)
		default:
			way, l = append(way, l[0]), l[1:]
		}
	}
	g[name] = append(g[name], way)
	return l
}

// partly: a way of a part that is written up to dot, begun ahead of the token from.
type partly struct {
	part           string
	way, dot, from int
}

// firstMisfit: which of the tokens is the first one that no text which goes on like this has there? (len: the end; -1: none.)
func (g rules) firstMisfit(tokens []string) int {
	sets := [][]partly{nil}
	for i := 0; ; i++ {
		seen := map[partly]bool{}
		add := func(to int, x partly) {
			if to > i {
				sets[to] = append(sets[to], x)
			} else if !seen[x] {
				seen[x] = true
				sets[i] = append(sets[i], x)
			}
		}
		begun := sets[i]
		sets[i] = nil
		for _, x := range begun {
			add(i, x)
		}
		if i == 0 {
			for w := range g["text"] {
				add(0, partly{"text", w, 0, 0})
			}
		}
		sets = append(sets, nil)
		for changed := true; changed; { // what is empty may be done before it is begun: once more, then
			before := len(sets[i])
			for j := 0; j < len(sets[i]); j++ {
				g.step(sets, sets[i][j], i, add)
			}
			changed = len(sets[i]) > before
		}
		if i == len(tokens) {
			for _, x := range sets[i] {
				if x.part == "text" && x.from == 0 && x.dot == len(g["text"][x.way]) {
					return -1
				}
			}
			return i
		}
		for _, x := range sets[i] {
			if way := g[x.part][x.way]; x.dot < len(way) && way[x.dot] == tokens[i] {
				add(i+1, partly{x.part, x.way, x.dot + 1, x.from})
			}
		}
		if len(sets[i+1]) == 0 {
			return i
		}
	}
}

func (g rules) step(sets [][]partly, x partly, i int, add func(int, partly)) {
	way := g[x.part][x.way]
	if x.dot < len(way) {
		for w := range g[way[x.dot]] {
			add(i, partly{way[x.dot], w, 0, i})
		}
		return
	}
	for _, y := range sets[x.from] {
		if outer := g[y.part][y.way]; y.dot < len(outer) && outer[y.dot] == x.part {
			add(i, partly{y.part, y.way, y.dot + 1, y.from})
		}
	}
}

// write: tokens of a part, drawn.
func (g rules) write(r *rand.Rand, part string, deep int) []string {
	ways := g[part]
	if len(ways) == 0 {
		return []string{part}
	}
	way := ways[r.Intn(len(ways))]
	if deep <= 0 {
		way = ways[0]
		switch part {
		case "unary":
			way = []string{"basic"}
		case "basic":
			way = ways[r.Intn(5)]
		case "stmt":
			way = ways[len(ways)-1-r.Intn(3)]
		}
	}
	var out []string
	for _, x := range way {
		out = append(out, g.write(r, x, deep-1)...)
	}
	return out
}

// spelt: the text of a token.
func spelt(r *rand.Rand, token string) string {
	switch token {
	case "name":
		return []string{"a", "B", "_x", "t", "min", "ton"}[r.Intn(6)]
	case "number":
		return []string{"1", "16#1", "2#01", "0_1"}[r.Intn(4)]
	case "time":
		return []string{"T#1s", "time#2m"}[r.Intn(2)]
	case "MAXCALL":
		return "max"
	}
	if strings.HasPrefix(token, `"`) {
		return strings.Trim(token, `"`)
	}
	return []string{token, strings.ToLower(token)}[r.Intn(2)]
}

// settle: a max is a call just if a bracket opens behind it.
func settle(l []string) []string {
	out := append([]string{}, l...)
	for i, x := range out {
		if x == "MAX" || x == "MAXCALL" {
			out[i] = "MAX"
			if i+1 < len(out) && out[i+1] == `"("` {
				out[i] = "MAXCALL"
			}
		}
	}
	return out
}

func joined(r *rand.Rand, tokens []string) (string, []int) {
	var text strings.Builder
	var places []int
	for _, x := range tokens {
		text.WriteString([]string{" ", "\n", "\t ", " (* ( *) ", " // x\n"}[r.Intn(5)])
		places = append(places, text.Len())
		text.WriteString(spelt(r, x))
	}
	return text.String(), append(places, text.Len())
}

// What Parse says of texts by the grammar, whole and spoilt, is what the grammar says.
func TestGrammar(t *testing.T) {
	g := readRules()
	var all []string
	for _, ways := range g {
		for _, way := range ways {
			for _, x := range way {
				if len(g[x]) == 0 {
					all = append(all, x)
				}
			}
		}
	}
	slices.Sort(all)
	r := rand.New(rand.NewSource(1))
	right, misfit, ranges := 0, 0, 0
	for range 6000 {
		tokens := g.write(r, "text", 6+r.Intn(16))
		if len(tokens) > 120 {
			continue
		}
		for range r.Intn(3) {
			tokens = spoil(r, tokens, all)
		}
		tokens = settle(tokens)
		s, places := joined(r, tokens)
		_, f := source.Parse(s)
		switch bad := g.firstMisfit(tokens); {
		case f.Code == api.ErrSize || f.Code == api.ErrDeep:
			t.Errorf("%q: %v", s, f)
		case f.Code == api.ErrRange:
			ranges++
			if bad >= 0 && places[bad] <= f.At || !strings.Contains("0126", s[f.At:f.At+1]) {
				t.Errorf("%q: %v, token %d cannot stand there", s, f, bad)
			}
		case bad < 0:
			right++
			if f != (api.Fault{}) {
				t.Errorf("%q: %v", s, f)
			}
		default:
			misfit++
			if f.Code != api.ErrText || f.At != places[bad] {
				t.Errorf("%q: %v, not at %d", s, f, places[bad])
			}
		}
	}
	if right < 500 || misfit < 1000 || ranges < 10 {
		t.Errorf("drawn: %d right, %d wrong, %d out of range", right, misfit, ranges)
	}
}

// spoil: a token more, less, another or twice.
func spoil(r *rand.Rand, l, all []string) []string {
	i := r.Intn(len(l))
	out := append([]string{}, l[:i]...)
	switch r.Intn(4) {
	case 0:
		return append(out, l[i+1:]...)
	case 1:
		return append(append(out, l[i]), l[i:]...)
	case 2:
		return append(append(out, all[r.Intn(len(all))]), l[i:]...)
	}
	return append(append(out, all[r.Intn(len(all))]), l[i+1:]...)
}
