package source

import (
	"slices"

	"plantwright/api"
)

// reader goes through a text token by token; whole: how many units it has read.
type reader struct {
	s     string
	now   token
	whole int
}

// giveUp ends all reading: the face recovers.
func (r *reader) giveUp(code api.Errno, at int) {
	panic(api.Fault{Code: code, Unit: r.whole, At: at})
}

// look: the token that is to be read; a fault of its own is told not till now, when all ahead of it stands.
func (r *reader) look() token {
	if r.now.class == broken {
		r.giveUp(r.now.fault, r.now.at)
	}
	return r.now
}

// take: the token that is to be read, which is left behind.
func (r *reader) take() token {
	t := r.look()
	r.now = r.next()
	return t
}

// next: the token behind the one that is to be read, whatever is wrong with it.
func (r *reader) next() token {
	return scan(r.s, r.now.end)
}

// is: does one of these words stand here?
func (r *reader) is(words ...string) bool {
	t := r.look()
	return t.class == mark && slices.Contains(words, t.text)
}

// took: does one of these words stand here? It is left behind then.
func (r *reader) took(words ...string) bool {
	found := r.is(words...)
	if found {
		r.take()
	}
	return found
}

// need: the one of these words that stands here, and has to.
func (r *reader) need(words ...string) token {
	if !r.is(words...) {
		r.giveUp(api.ErrText, r.now.at)
	}
	return r.take()
}

func (r *reader) isClass(c class) bool {
	return r.look().class == c
}

// needClass: the token of this class that stands here, and has to.
func (r *reader) needClass(c class) token {
	if !r.isClass(c) {
		r.giveUp(api.ErrText, r.now.at)
	}
	return r.take()
}

// name: the name that stands here, and has to.
func (r *reader) name() string {
	return r.needClass(name).text
}

// constant: a number with or without a sign.
func (r *reader) constant() int {
	return r.constantOf(func(int) bool { return true })
}

// constantOf: a number with or without a sign that has to fit.
func (r *reader) constantOf(fits func(n int) bool) int {
	sign := 1
	if r.took("-") {
		sign = -1
	}
	return r.numberOf(sign, fits)
}

func (r *reader) numberOf(sign int, fits func(n int) bool) int {
	t := r.needClass(number)
	if !fits(sign * t.n) {
		r.giveUp(api.ErrRange, t.at)
	}
	return sign * t.n
}
