package signatures

import (
	"testing"

	"merlon/api"
	"merlon/blame"
	"merlon/bump"
	"merlon/codec"
	"merlon/expand"
	"merlon/expr"
	"merlon/facade"
	"merlon/gate"
	"merlon/ident"
	"merlon/iface"
	"merlon/infer"
	"merlon/kind"
	"merlon/lex"
	"merlon/lock"
	"merlon/manifest"
	"merlon/program"
	"merlon/reduce"
	"merlon/release"
	"merlon/scope"
	"merlon/semver"
	"merlon/shelf"
	"merlon/solve"
	"merlon/state"
	"merlon/sub"
	"merlon/syntax"
	"merlon/term"
	"merlon/uses"
	"merlon/witness"
)

// The calls of the chapters, in their order: this fails by not compiling.
func TestSignatures(t *testing.T) {
	var (
		_ func(api.Version) bool                                                   = semver.May
		_ func(string) (api.Version, error)                                        = semver.Parse
		_ func(api.Version) (string, error)                                        = semver.Print
		_ func(api.Version, api.Version) int                                       = semver.Cmp
		_ func(api.Version, int) (api.Version, error)                              = semver.Next
		_ func(api.Range) bool                                                     = semver.MayRange
		_ func(string) (api.Range, error)                                          = semver.ParseRange
		_ func(api.Range) (string, error)                                          = semver.PrintRange
		_ func(api.Range, api.Version) bool                                        = semver.In
		_ func(string) bool                                                        = ident.Small
		_ func(string) bool                                                        = ident.Great
		_ func(string) bool                                                        = ident.Key
		_ func(string) ([]api.Token, error)                                        = lex.Tokens
		_ func([]api.Token) string                                                 = lex.Join
		_ func(api.Type) bool                                                      = kind.May
		_ func(api.Type) int                                                       = kind.Size
		_ func(api.Type, api.Type) bool                                            = kind.Same
		_ func(api.Type) bool                                                      = kind.Plain
		_ func(api.Type) (string, error)                                           = kind.Print
		_ func(string) (api.Type, error)                                           = expr.Parse
		_ func([]api.Token, int) (api.Type, int, error)                            = expr.At
		_ func(api.Module) bool                                                    = syntax.May
		_ func(api.Module) (string, error)                                         = syntax.Print
		_ func(string) (api.Module, error)                                         = syntax.Parse
		_ func(api.Module) error                                                   = scope.Check
		_ func(api.Module, api.Type) []string                                      = scope.Mentions
		_ func(api.Module, string, int, []api.Iface, api.Type) (api.Type, error)   = expand.Expand
		_ func([]api.Iface, api.Import) (api.Iface, bool)                          = expand.Find
		_ func([]api.Named, string) (api.Type, bool)                               = expand.Of
		_ func(api.Type, api.Type) bool                                            = sub.Sub
		_ func(api.Type, api.Type) bool                                            = sub.Joins
		_ func(api.Type, api.Type) (api.Type, bool)                                = sub.Join
		_ func(api.Type, api.Type) (api.Type, bool)                                = sub.Meet
		_ func(api.Iface) bool                                                     = iface.May
		_ func(api.Module, string, int, []api.Iface) (api.Iface, error)            = iface.Build
		_ func(api.Iface, api.Iface) bool                                          = iface.Same
		_ func(api.Uses) bool                                                      = uses.May
		_ func(api.Uses) (string, error)                                           = uses.Print
		_ func(string) (api.Uses, error)                                           = uses.Parse
		_ func(api.Uses, []api.Iface) error                                        = uses.Check
		_ func([]api.Iface) bool                                                   = bump.May
		_ func([]api.Iface, []api.Iface) ([]api.Change, error)                     = bump.Changes
		_ func([]api.Iface, []api.Iface) (int, error)                              = bump.Of
		_ func([]api.Iface, []api.Iface) (api.Uses, bool, error)                   = witness.Breaks
		_ func(api.Manifest) bool                                                  = manifest.May
		_ func(api.Manifest) (string, error)                                       = manifest.Print
		_ func(string) (api.Manifest, error)                                       = manifest.Parse
		_ func([]string) ([]byte, error)                                           = codec.Put
		_ func([]byte) ([]string, error)                                           = codec.Get
		_ func(int) (*shelf.Shelf, error)                                          = shelf.New
		_ func([]byte, int) (*shelf.Shelf, error)                                  = shelf.Open
		_ func(*shelf.Shelf, []byte) error                                         = (*shelf.Shelf).Append
		_ func(*shelf.Shelf, []byte, int) ([]byte, error)                          = (*shelf.Shelf).Torn
		_ func(*shelf.Shelf) [][]byte                                              = (*shelf.Shelf).Records
		_ func(*shelf.Shelf) []byte                                                = (*shelf.Shelf).Bytes
		_ func(*shelf.Shelf) int                                                   = (*shelf.Shelf).Free
		_ func(api.Release, []api.Iface) (api.Pack, error)                         = release.Open
		_ func() *state.State                                                      = state.New
		_ func(*state.State, api.Release) (int, error)                             = (*state.State).Publish
		_ func(*state.State, string, api.Version) error                            = (*state.State).Yank
		_ func(*state.State, string) []api.Version                                 = (*state.State).Versions
		_ func(*state.State) []string                                              = (*state.State).Packages
		_ func(*state.State, string, api.Version) (api.Pack, bool, bool)           = (*state.State).Get
		_ func(*state.State) *state.State                                          = (*state.State).Clone
		_ func([]api.Pick) bool                                                    = lock.May
		_ func([]api.Dep) bool                                                     = lock.Needs
		_ func([]api.Pick) (string, error)                                         = lock.Print
		_ func(string) ([]api.Pick, error)                                         = lock.Parse
		_ func(*state.State, []api.Dep, []api.Pick, []api.Pick) bool               = lock.Meets
		_ func(*state.State, []api.Dep, []api.Pick) ([]api.Pick, error)            = solve.Solve
		_ func([]byte, int) (*gate.Gate, error)                                    = gate.Open
		_ func(*gate.Gate, []byte) api.Answer                                      = (*gate.Gate).Do
		_ func(*gate.Gate, []byte, int) []byte                                     = (*gate.Gate).Torn
		_ func(*gate.Gate) []byte                                                  = (*gate.Gate).Bytes
		_ func(*gate.Gate) *state.State                                            = (*gate.Gate).State
		_ func(*state.State, []api.Pick) error                                     = facade.Link
		_ func(...string) ([]byte, error)                                          = facade.Command
		_ func(api.Release) ([]byte, error)                                        = facade.Publish
		_ func(api.Term) bool                                                      = term.May
		_ func(api.Term, api.Term) bool                                            = term.Same
		_ func(api.Term) (string, error)                                           = term.Print
		_ func(string) (api.Term, error)                                           = term.Parse
		_ func([]api.Token, int) (api.Term, int, error)                            = term.At
		_ func([]api.Import, []api.Iface, []api.Named, api.Term) (api.Type, error) = infer.Of
		_ func(api.Term) bool                                                      = reduce.Closed
		_ func(api.Term) bool                                                      = reduce.Value
		_ func([]api.Def, api.Term) (api.Term, bool, error)                        = reduce.Step
		_ func([]api.Def, api.Term, int) (api.Term, int, error)                    = reduce.Run
		_ func(api.Program) bool                                                   = program.May
		_ func(api.Program) (string, error)                                        = program.Print
		_ func(string) (api.Program, error)                                        = program.Parse
		_ func(api.Program, []api.Iface) ([]api.Named, error)                      = program.Check
		_ func(*state.State, []api.Dep, []api.Pick) ([]api.Dep, error)             = blame.Of
		_ func([]api.Dep) (string, error)                                          = blame.Text
	)
}
