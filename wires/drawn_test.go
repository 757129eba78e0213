package wires_test

import (
	"fmt"
	"reflect"
	"strings"
	"testing"

	"plantwright/api"
	"plantwright/source"
	"plantwright/wires"
)

// artist draws diagrams as lists of tokens.
type artist struct {
	*die
	out []string
}

func (a *artist) put(l ...string) {
	a.out = append(a.out, l...)
}

// name: one of so many.
func (a *artist) name(of int) string {
	return fmt.Sprint("v", a.n(of))
}

// diagram: most of them small, some at one of the limits; in some each name is written once at most.
func (a *artist) diagram() {
	nodes, names, args, prevs, calls := a.n(7), 4+a.n(20), a.n(4), 2+a.n(5), 2+a.n(6)
	once := a.n(4) > 0
	switch a.n(12) {
	case 0:
		nodes, names = 198+a.n(5), 4000
	case 1:
		nodes, args, names = 1+a.n(2), 14+a.n(4), 2000
	}
	a.put("DIAGRAM", "d", "VAR", "v0", ",", "v1", ":", "INT", ";", "END_VAR")
	var left []int
	for i := range names {
		left = append(left, i)
	}
	write := func() string {
		if !once || len(left) == 0 {
			return a.name(names)
		}
		i := a.n(len(left))
		name := fmt.Sprint("v", left[i])
		left = append(left[:i], left[i+1:]...)
		return name
	}
	for range nodes {
		switch {
		case a.n(prevs) == 0:
			a.put("PREV", write(), ":=", a.name(names), ";")
		case a.n(calls) == 0:
			a.call(names, args, write)
		default:
			a.put(write(), ":=")
			a.expr(names, a.n(5))
			a.put(";")
		}
	}
	a.put("END_DIAGRAM")
}

func (a *artist) call(names, args int, write func() string) {
	a.put(write(), "(")
	for i := range args {
		if i > 0 {
			a.put(",")
		}
		a.put(a.name(names))
		if a.n(2) == 0 {
			a.put("=>", write())
			continue
		}
		a.put(":=")
		a.expr(names, a.n(3))
	}
	a.put(")", ";")
}

// expr: an expression with so many parts or fewer.
func (a *artist) expr(names, parts int) {
	switch {
	case parts == 0:
		a.basic(names)
	case a.n(3) == 0:
		a.expr(names, parts-1)
		a.put(pick(a.die, "+", "-", "*", "/", "MOD", "AND", "&", "OR", "XOR", "=", "<>", "<", ">", "<=", ">="))
		a.expr(names, parts-1)
	case a.n(4) == 0:
		a.put(pick(a.die, "max", a.name(names)), "(")
		a.expr(names, parts-1)
		a.put(",")
		a.expr(names, parts-1)
		a.put(")")
	case a.n(3) == 0:
		a.put(a.name(names), "[")
		a.expr(names, parts-1)
		a.put("]")
	case a.n(2) == 0:
		a.put(pick(a.die, "NOT", "-"))
		a.expr(names, parts-1)
	default:
		a.put("(")
		a.expr(names, parts-1)
		a.put(")")
	}
}

func (a *artist) basic(names int) {
	switch a.n(4) {
	case 0:
		a.put(a.name(names), ".", a.name(names))
	case 1:
		a.put(pick(a.die, "5", "16#f", "TRUE", "T#1s", "0"))
	default:
		a.put(a.name(names))
	}
}

// spoil puts tokens in, out and into other places.
func (a *artist) spoil() {
	for range 1 + a.n(2) {
		i := a.n(len(a.out))
		strange := pick(a.die, "[", "]", "(", ")", ",", ";", "=>", ":=", "/", ">", "<", "+", "-", ".", "..", "<>", ">=", "*", "x", "max", "PREV", "END_DIAGRAM", "DIAGRAM", "VAR", "END_VAR", "NOT", "TRUE", "5", "16#zz", "T#1h", "T#1", "%", "(*", "//", "\n", "99999999999", strings.Repeat("y", 25), "#", "v0", "v1")
		switch a.n(4) {
		case 0:
			a.out = append(a.out[:i], a.out[i+1:]...)
		case 1:
			a.out[i] = strange
		case 2:
			a.out = append(a.out[:i], append([]string{strange}, a.out[i:]...)...)
		case 3:
			a.out = append(a.out[:i], append([]string{a.out[a.n(len(a.out))]}, a.out[i:]...)...)
		}
		if len(a.out) == 0 {
			a.put("DIAGRAM")
		}
	}
}

// text: the tokens, with something between them where it has to be, and often where it has not.
func (a *artist) text() string {
	var b strings.Builder
	for _, s := range a.out {
		b.WriteString(pick(a.die, " ", " ", "\n", "\t", "(* c *)", " // d\n", "  "))
		if a.n(8) == 0 {
			s = strings.ToUpper(s)
		}
		b.WriteString(s)
	}
	return b.String()
}

// held: is a text read as the model reads it?
func held(t *testing.T, s string) api.Fault {
	t.Helper()
	u, f := wires.Read(s)
	want, wantFault := modelled(s)
	if f != wantFault {
		t.Fatalf("Read(%q): %v, not %v", s, f, wantFault)
	}
	if !reflect.DeepEqual(plain(u), plain(want)) {
		t.Fatalf("Read(%q):\n%+v\nnot\n%+v", s, u, want)
	}
	if f.Code == api.OK && !source.May(u) {
		t.Fatalf("Read(%q): a unit that may not be", s)
	}
	return f
}

func TestDrawn(t *testing.T) {
	d := die(11)
	codes := map[api.Errno]int{}
	moved := 0
	for range 2500 {
		a := artist{die: &d}
		a.diagram()
		s := a.text()
		codes[held(t, s).Code]++
		if u, _ := wires.Read(s); !inTextOrder(u.Body) {
			moved++
		}
		a.spoil()
		codes[held(t, a.text()).Code]++
	}
	for _, code := range []api.Errno{api.OK, api.ErrText, api.ErrLong, api.ErrRange, api.ErrSize, api.ErrTwice, api.ErrLoop} {
		if codes[code] < 20 {
			t.Errorf("only %d texts with %d: %v", codes[code], code, codes)
		}
	}
	if moved < 200 {
		t.Errorf("only %d diagrams with an order of their own", moved)
	}
}

func inTextOrder(l []api.Stmt) bool {
	for i := 1; i < len(l); i++ {
		if l[i].At < l[i-1].At {
			return false
		}
	}
	return true
}

// A text that is cut off anywhere, or has one byte less or another one, is read as the model reads it.
func TestSpoiltBytes(t *testing.T) {
	s := whole("c := a + b; PREV a := c; (* c *) b := x[a.q] + f(d, 1);\nt(in := NOT p, q => q, pt := T#1s); // d\n u(); d := -5;")
	for i := range s {
		held(t, s[:i])
		held(t, s[:i]+s[i+1:])
		for _, c := range "[](),;/<>+-.=: \n%#a1*" {
			held(t, s[:i]+string(c)+s[i+1:])
			held(t, s[:i]+string(c)+s[i:])
		}
	}
}

// All texts of few tokens behind a whole beginning.
func TestAllShort(t *testing.T) {
	l := []string{"[", "]", "(", ")", ",", ";", "=>", ":=", "a", "b", ".", "PREV", "END_DIAGRAM", "1", "max"}
	for _, begin := range []string{"DIAGRAM d ", "DIAGRAM d a ", "DIAGRAM d PREV a ", "DIAGRAM d a := 1; b := ", "DIAGRAM d a(b := a, ", "DIAGRAM d a(b => "} {
		for _, x := range l {
			for _, y := range l {
				for _, z := range l {
					held(t, begin+x+" "+y+" "+z)
					held(t, begin+x+y+z+"; END_DIAGRAM")
					held(t, begin+x+" "+y+" "+z+" ); b := a; END_DIAGRAM")
				}
			}
		}
	}
}

// Bytes of any kind: it ends, and does not panic.
func TestStrangeBytes(t *testing.T) {
	d := die(5)
	for range 2000 {
		b := make([]byte, d.n(60))
		for i := range b {
			b[i] = byte(d.n(256))
		}
		held(t, string(b))
		held(t, "DIAGRAM d a := "+string(b))
	}
	for _, s := range []string{"(", "[", "a[", "(((*", "a(", "-", "NOT ", "PREV ", "a := ", "a := b; ", "t(in := ", "t(q => a, ", "t(); ", "(*", "//", "f(a, ", "a.", "a+", ";"} {
		held(t, "DIAGRAM d "+strings.Repeat(s, 50000/len(s)))
		held(t, "DIAGRAM d a := "+strings.Repeat(s, 50000/len(s)))
		held(t, "DIAGRAM d t("+strings.Repeat(s, 50000/len(s)))
	}
}
