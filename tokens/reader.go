// Package tokens: what the texts of units, of ladders and of diagrams have in common: their tokens, and a reader that goes through them.
package tokens

import (
	"slices"

	"plantwright/api"
)

// Reader goes through a text token by token: Now is the one that is to be read. Whole: how many units it has read.
type Reader struct {
	Text  string
	Now   Token
	Whole int
}

// Within reads a part of a text, from a place on, and answers with where it ends, or with what its reader gave up with, if it did.
func Within[T any](s string, at int, part func(*Reader) T) (tree T, end int, fault api.Fault) {
	if len(s) > api.MaxText {
		return tree, 0, api.Fault{Code: api.ErrSize}
	}
	if at < 0 || at > len(s) {
		return tree, 0, api.Fault{Code: api.ErrRange}
	}
	defer func() {
		if given := recover(); given != nil {
			var none T
			tree, end, fault = none, 0, given.(api.Fault)
		}
	}()
	r := &Reader{Text: s}
	r.GoTo(at)
	tree = part(r)
	return tree, r.Look().At, fault
}

// GiveUp ends all reading: the face recovers.
func (r *Reader) GiveUp(code api.Errno, at int) {
	panic(api.Fault{Code: code, Unit: r.Whole, At: at})
}

// GoTo goes on with the first token at a place of the text, or behind it.
func (r *Reader) GoTo(at int) {
	r.Now = scan(r.Text, at)
}

// Look: the token that is to be read; a fault of its own is told not till now, when all ahead of it stands.
func (r *Reader) Look() Token {
	if r.Now.Class == Broken {
		r.GiveUp(r.Now.Fault, r.Now.At)
	}
	return r.Now
}

// Take: the token that is to be read, which is left behind.
func (r *Reader) Take() Token {
	t := r.Look()
	r.Now = r.Next()
	return t
}

// Next: the token behind the one that is to be read, whatever is wrong with it.
func (r *Reader) Next() Token {
	return scan(r.Text, r.Look().End)
}

// Is: does one of these words stand here?
func (r *Reader) Is(words ...string) bool {
	t := r.Look()
	return t.Class == Mark && slices.Contains(words, t.Text)
}

// Took: does one of these words stand here? It is left behind then.
func (r *Reader) Took(words ...string) bool {
	found := r.Is(words...)
	if found {
		r.Take()
	}
	return found
}

// Need: the one of these words that stands here, and has to.
func (r *Reader) Need(words ...string) Token {
	if !r.Is(words...) {
		r.GiveUp(api.ErrText, r.Now.At)
	}
	return r.Take()
}

// IsClass: does a token of this class stand here?
func (r *Reader) IsClass(c Class) bool {
	return r.Look().Class == c
}

// NeedClass: the token of this class that stands here, and has to.
func (r *Reader) NeedClass(c Class) Token {
	if !r.IsClass(c) {
		r.GiveUp(api.ErrText, r.Now.At)
	}
	return r.Take()
}

// NeedName: the name that stands here, and has to.
func (r *Reader) NeedName() string {
	return r.NeedClass(Name).Text
}

// NeedArg: the argument of an instance that stands here, and has to, behind so many others; its expression is read by expr.
func (r *Reader) NeedArg(others int, expr func() api.Expr) api.Arg {
	t := r.NeedClass(Name)
	if others == 2*api.MaxArgs {
		r.GiveUp(api.ErrSize, t.At)
	}
	a := api.Arg{Name: t.Text, At: t.At}
	if r.Need(":=", "=>").Text == "=>" {
		a.Out = true
		a.To = r.NeedName()
		return a
	}
	a.E = expr()
	return a
}
