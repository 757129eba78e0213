package ladder_test

import (
	"fmt"
	"reflect"
	"strings"
	"testing"

	"plantwright/api"
	"plantwright/ladder"
	"plantwright/source"
)

// artist draws ladders as lists of tokens; counts: its instance is a counter, which tells n, and all of it can run.
type artist struct {
	*die
	out    []string
	counts bool
}

func (a *artist) put(l ...string) {
	a.out = append(a.out, l...)
}

func (a *artist) bool() string {
	return pick(a.die, "a", "b", "c", "d", "m", "n", "q")
}

// ladder: most of them small, some at one of the limits.
func (a *artist) ladder() {
	rungs, contacts, coils, nest, args, vars := a.n(4), 1+a.n(6), 1+a.n(4), a.n(4), a.n(3), 7
	switch a.n(10) {
	case 0:
		rungs, contacts, coils = 98+a.n(5), 1, 1
	case 1:
		rungs, contacts = 1, 62+a.n(5)
	case 2:
		rungs, coils = 1, 15+a.n(3)
	case 3:
		nest = 14 + a.n(8)
	case 4:
		args = 14 + a.n(3)
	case 5:
		vars = 194 + a.n(8)
	}
	a.put("LADDER", "l")
	a.heads(vars)
	for range rungs {
		a.rung(contacts, coils, nest, args)
	}
	a.put("END_LADDER")
}

func (a *artist) heads(vars int) {
	a.put("VAR", "a", ",", "b", ",", "c", ",", "d", ",", "m", ",", "n", ",", "q", ":", "BOOL", ";")
	for i := range vars - 7 {
		a.put(fmt.Sprint("v", i), ":", "INT", ";")
	}
	a.put("END_VAR")
}

func (a *artist) rung(contacts, coils, nest, args int) {
	a.put("RUNG")
	a.way(contacts, nest)
	a.put("=>")
	for i := range coils {
		if i > 0 {
			a.put(",")
		}
		a.coil(args)
	}
	a.put(";")
}

// way: of so many contacts, at least one, in so many brackets at most.
func (a *artist) way(contacts, nest int) {
	if nest > 4 {
		a.put("(")
		a.way(contacts, nest-1)
		a.put(")")
		return
	}
	for contacts > 0 {
		n := 1 + a.n(contacts)
		contacts -= n
		if nest > 0 && (n > 1 || a.n(2) == 0) {
			a.put("(")
			first := 1 + a.n(n)
			a.way(first, nest-1)
			if n > first {
				a.put(",")
				a.way(n-first, nest-1)
			}
			a.put(")")
			continue
		}
		for range n {
			a.contact()
		}
	}
}

func (a *artist) contact() {
	a.put("[")
	if a.n(3) == 0 {
		a.put(pick(a.die, "/", ">", "<"))
	}
	switch {
	case a.n(5) > 0:
		a.put(a.bool(), "]")
	case a.counts:
		a.put("u", ".", "q", "]")
	default:
		a.put("t", ".", "q", "]")
	}
}

func (a *artist) coil(args int) {
	if a.n(4) > 0 {
		if sign := pick(a.die, "", "/", "+", "-", ">"); sign != "" {
			a.put(sign)
		}
		a.put(a.bool())
		return
	}
	if a.counts {
		a.put("u", "(", "cu", ",", "pv", ":=", "2", ",", "q", "=>", "n", ")")
		return
	}
	a.put("t", "(", "in")
	for range args {
		a.put(",")
		switch a.n(4) {
		case 0:
			a.put("q", "=>", a.bool())
		case 1:
			a.put("pt", ":=", "T#5s")
		default:
			a.put("pt", ":=", "(", "5", "+", "max", "(", "a", ",", "-", "3", ")", ")")
		}
	}
	a.put(")")
}

// spoil puts tokens in, out and into other places.
func (a *artist) spoil() {
	for range 1 + a.n(2) {
		i := a.n(len(a.out))
		strange := pick(a.die, "[", "]", "(", ")", ",", ";", "=>", ":=", "/", ">", "<", "+", "-", ".", "..", "<>", ">=", "*", "x", "max", "RUNG", "END_LADDER", "LADDER", "VAR", "END_VAR", "NOT", "TRUE", "5", "16#zz", "T#1h", "T#1", "%", "(*", "//", "\n", "99999999999", strings.Repeat("y", 25), "#")
		switch a.n(4) {
		case 0:
			a.out = append(a.out[:i], a.out[i+1:]...)
		case 1:
			a.out[i] = strange
		case 2:
			a.out = append(a.out[:i], append([]string{strange}, a.out[i:]...)...)
		case 3:
			a.out = append(a.out[:i], append([]string{a.out[a.n(len(a.out))]}, a.out[i:]...)...)
		}
		if len(a.out) == 0 {
			a.put("LADDER")
		}
	}
}

// text: the tokens, with something between them where it has to be, and often where it has not.
func (a *artist) text() string {
	var b strings.Builder
	for _, s := range a.out {
		b.WriteString(pick(a.die, " ", " ", "\n", "\t", "(* c *)", " // d\n", "  "))
		if a.n(8) == 0 {
			s = strings.ToUpper(s)
		}
		b.WriteString(s)
	}
	return b.String()
}

// held: is a text read as the model reads it?
func held(t *testing.T, s string) api.Fault {
	t.Helper()
	u, f := ladder.Read(s)
	want, wantFault := modelled(s)
	if f != wantFault {
		t.Fatalf("Read(%q): %v, not %v", s, f, wantFault)
	}
	if !reflect.DeepEqual(plain(u), plain(want)) {
		t.Fatalf("Read(%q):\n%+v\nnot\n%+v", s, u, want)
	}
	if f.Code == api.OK && !source.May(u) {
		t.Fatalf("Read(%q): a unit that may not be", s)
	}
	return f
}

func TestDrawn(t *testing.T) {
	d := die(11)
	codes := map[api.Errno]int{}
	for range 3000 {
		a := artist{die: &d}
		a.ladder()
		codes[held(t, a.text()).Code]++
		a.spoil()
		codes[held(t, a.text()).Code]++
	}
	for _, code := range []api.Errno{api.OK, api.ErrText, api.ErrLong, api.ErrRange, api.ErrSize, api.ErrDeep} {
		if codes[code] < 20 {
			t.Errorf("only %d texts with %d: %v", codes[code], code, codes)
		}
	}
}

// A text that is cut off anywhere, or has one byte less or another one, is read as the model reads it.
func TestSpoiltBytes(t *testing.T) {
	s := whole("RUNG ([>a], [t.q] [/b]) [<c] (* c *) => m, /n, +a, -b, >q, t(in, pt := T#5s, q => d);\nRUNG [a] // d\n => b;")
	for i := range s {
		held(t, s[:i])
		held(t, s[:i]+s[i+1:])
		for _, c := range "[](),;/<>+-.=: \n%#a1*" {
			held(t, s[:i]+string(c)+s[i+1:])
			held(t, s[:i]+string(c)+s[i:])
		}
	}
}

// All texts of few tokens behind a whole beginning.
func TestAllShort(t *testing.T) {
	l := []string{"[", "]", "(", ")", ",", ";", "=>", "/", ">", "<", "a", ".", "RUNG", "END_LADDER", ":="}
	for _, begin := range []string{"LADDER l ", "LADDER l RUNG ", "LADDER l RUNG [", "LADDER l RUNG [a] => ", "LADDER l RUNG [a] => a("} {
		for _, x := range l {
			for _, y := range l {
				for _, z := range l {
					held(t, begin+x+" "+y+" "+z)
					held(t, begin+x+y+z+" => a; END_LADDER")
				}
			}
		}
	}
}

// Bytes of any kind: it ends, and does not panic.
func TestStrangeBytes(t *testing.T) {
	d := die(5)
	for range 2000 {
		b := make([]byte, d.n(60))
		for i := range b {
			b[i] = byte(d.n(256))
		}
		held(t, string(b))
		held(t, "LADDER l RUNG [a] "+string(b))
	}
	for _, s := range []string{"(", "[", "([", "(((*", "[a](", "/", ">", "RUNG ", "RUNG [a] => a; ", "[a]", "([a],", "[a] => a(b, c := (", "(*", "//"} {
		held(t, "LADDER l RUNG "+strings.Repeat(s, 50000/len(s)))
		held(t, "LADDER l RUNG [a] => "+strings.Repeat(s, 50000/len(s)))
	}
}
