// Package cursor goes through tokens from the left on: the layers that read texts stand on it.
package cursor

import (
	"strconv"
	"strings"

	"merlon/api"
	"merlon/ident"
	"merlon/lex"
)

// Cursor stands at a token, or behind all. It keeps what is amiss first, and
// finds no further token then: so all that is being read comes to its end.
type Cursor struct {
	tokens []api.Token
	at     int
	err    error
}

// New stands at the token of number i, which is 0 to how many there are. The
// tokens are the caller's: they are read alone.
func New(l []api.Token, i int) *Cursor { return &Cursor{tokens: l, at: i} }

// At is the number of the token where c stands.
func (c *Cursor) At() int { return c.at }

// Err is what was amiss first, or nil.
func (c *Cursor) Err() error { return c.err }

// Done tells whether no further token is found.
func (c *Cursor) Done() bool { return c.err != nil || c.at >= len(c.tokens) }

// Next is the token where c stands; or the zero one, which nothing can take.
func (c *Cursor) Next() api.Token {
	if c.Done() {
		return api.Token{}
	}
	return c.tokens[c.at]
}

// Pass goes on to the next token.
func (c *Cursor) Pass() { c.at++ }

// Must tells that something is amiss where c stands, if it isn't so.
func (c *Cursor) Must(so bool, code api.Code) {
	if !so && c.err == nil {
		c.err = &api.Spot{At: c.at, Err: code}
	}
}

// Skip takes a sign, if it stands here.
func (c *Cursor) Skip(text string) bool {
	so := c.stands(api.TokSign, text)
	if so {
		c.Pass()
	}
	return so
}

// Sign takes a sign that alone can stand here.
func (c *Cursor) Sign(text string) { c.Must(c.Skip(text), api.ErrForm) }

// AtKey tells whether a key stands here.
func (c *Cursor) AtKey(text string) bool { return c.stands(api.TokLower, text) }

// Key takes a key that alone can stand here.
func (c *Cursor) Key(text string) {
	c.Must(c.AtKey(text), api.ErrForm)
	c.Pass()
}

func (c *Cursor) stands(kind int, text string) bool {
	t := c.Next()
	return t.Kind == kind && t.Text == text
}

// Word takes a word that is such a one, and tells it as a copy.
func (c *Cursor) Word(is func(api.Token) bool) string {
	t := c.Next()
	c.Must(is(t), api.ErrForm)
	c.Pass()
	return strings.Clone(t.Text)
}

// Number takes a number that is least to MaxPart. It is strict where
// strconv.Atoi is not: that one takes signs, and noughts ahead, which Itoa
// doesn't write.
func (c *Cursor) Number(least int) int {
	t := c.Next()
	n, err := strconv.Atoi(t.Text)
	whole := t.Kind == api.TokNumber && err == nil && strconv.Itoa(n) == t.Text
	c.Must(whole && least <= n && n <= api.MaxPart, api.ErrForm)
	c.Pass()
	return n
}

// Read takes what at reads from here on, such as a type by expr.At.
func Read[T any](c *Cursor, at func([]api.Token, int) (T, int, error)) T {
	var zero T
	if c.err != nil {
		return zero
	}
	x, end, err := at(c.tokens, c.at)
	if err != nil {
		c.err = err
		return zero
	}
	c.at = end
	return x
}

// Parse reads a text by read; or tells lex's error, or what is amiss first.
func Parse[T any](s string, read func(*Cursor) T) (T, error) {
	var zero T
	l, err := lex.Tokens(s)
	if err != nil {
		return zero, err
	}
	c := New(l, 0)
	x := read(c)
	if c.err != nil {
		return zero, c.err
	}
	return x, nil
}

// A token counts by its Kind and by its Text: one that is right in one of them
// alone is no text's.

// Small tells whether a token is a small name.
func Small(t api.Token) bool { return t.Kind == api.TokLower && ident.Small(t.Text) }

// Great tells whether a token is a great name.
func Great(t api.Token) bool { return t.Kind == api.TokUpper && ident.Great(t.Text) }
