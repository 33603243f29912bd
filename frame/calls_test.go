// Package frame tests what all layers have in common: the calls that the chapters list, whose change would not compile here, and the ways in which each layer is built.
package frame

import (
	"relyguard/api"
	"relyguard/attack"
	"relyguard/audit"
	"relyguard/buffers"
	"relyguard/certificate"
	"relyguard/checker"
	"relyguard/cnf"
	"relyguard/conditions"
	"relyguard/conflict"
	"relyguard/decide"
	"relyguard/elaborate"
	"relyguard/encode"
	"relyguard/explore"
	"relyguard/expr"
	"relyguard/fences"
	"relyguard/ghost"
	"relyguard/hint"
	"relyguard/infer"
	"relyguard/interfere"
	"relyguard/lexer"
	"relyguard/link"
	"relyguard/machine"
	"relyguard/monitor"
	"relyguard/parser"
	"relyguard/printer"
	"relyguard/program"
	"relyguard/proof"
	"relyguard/prover"
	"relyguard/recall"
	"relyguard/registry"
	"relyguard/relation"
	"relyguard/resolve"
	"relyguard/schedule"
	"relyguard/shrink"
	"relyguard/solver"
	"relyguard/stabilise"
	"relyguard/states"
	"relyguard/termination"
	"relyguard/typing"
	"relyguard/unitprop"
	"relyguard/workshop"
)

// Layer 1.
var (
	_ func(source string) ([]api.Token, api.Errno, int) = lexer.Lex
)

// Layer 2.
var (
	_ func(source string) (api.Node, []api.Diag) = parser.Parse
	_ func(text string) (api.Node, []api.Diag)   = parser.ParseExpr
	_ func(n api.Node) bool                      = parser.Valid
	_ func(n api.Node) api.Node                  = parser.Strip
)

// Layer 3.
var (
	_ func(n api.Node) (string, api.Errno) = printer.Expr
	_ func(n api.Node) (string, api.Errno) = printer.Source
)

// Layer 4.
var (
	_ func(source api.Node) (api.Symbols, []api.Diag)                            = resolve.Collect
	_ func(s api.Symbols, module, proc int, path string) (api.Target, api.Errno) = resolve.Lookup
	_ func(s api.Symbols, module int, path string) (int, api.Errno)              = resolve.ProcOf
	_ func(s api.Symbols) ([]int, api.Errno)                                     = resolve.Order
)

// Layer 5.
var (
	_ func(s api.Symbols, module, proc int, e api.Node, want int) (int, []api.Diag) = typing.Width
	_ func(s api.Symbols) []api.Diag                                                = typing.Check
)

// Layer 6.
var (
	_ func(e api.Expr, cells []api.Cell, pair bool) bool = expr.Valid
	_ func(e api.Expr, old, now []int) int               = expr.Eval
	_ func(e api.Expr) (old, now []int)                  = expr.Support
	_ func(e api.Expr, set []api.Assign) api.Expr        = expr.Subst
	_ func(e api.Expr) api.Expr                          = expr.Before
	_ func(e api.Expr) api.Expr                          = expr.Simplify
	_ func(list []api.Expr) api.Expr                     = expr.And
	_ func(list []api.Expr) api.Expr                     = expr.Or
	_ func(a, b api.Expr) api.Expr                       = expr.Implies
	_ func(e api.Expr, limit int) int                    = expr.Size
	_ func(e api.Expr) string                            = expr.Text
	_ func(text string) (api.Expr, api.Errno)            = expr.Read
)

// Layer 7.
var (
	_ func(p api.Program) (api.Errno, int, int)    = program.Valid
	_ func(s api.Step) []int                       = program.Reads
	_ func(s api.Step) []int                       = program.Writes
	_ func(p api.Program, thread, point int) []int = program.Steps
	_ func(p api.Program, thread int) []int        = program.Locals
	_ func(p api.Program) []int                    = program.Shared
	_ func(p api.Program) string                   = program.Text
)

// Layer 8.
var (
	_ func(s api.Symbols) ([]api.Cell, api.Errno)                                 = elaborate.Cells
	_ func(s api.Symbols, module int, e api.Node, want int) (api.Expr, api.Errno) = elaborate.Expr
	_ func(source api.Node) (api.Program, []api.Diag)                             = elaborate.Build
)

// Layer 9.
var (
	_ func(p api.Program) []api.Leak               = ghost.Leaks
	_ func(p api.Program) (api.Program, api.Errno) = ghost.Erase
	_ func(p api.Program, state []int) []int       = ghost.Real
)

// Layer 10.
var (
	_ func(cells []api.Cell, list []int, e api.Expr) (api.Set, api.Errno) = states.Of
	_ func(a, b api.Set) (api.Set, api.Errno)                             = states.Meet
	_ func(a, b api.Set) (api.Set, api.Errno)                             = states.Join
	_ func(a, b api.Set) (api.Set, api.Errno)                             = states.Minus
	_ func(a api.Set, list []int) (api.Set, api.Errno)                    = states.Project
	_ func(a api.Set, state []int) int                                    = states.Number
	_ func(a api.Set, n int, base []int) []int                            = states.State
	_ func(a api.Set, state []int) bool                                   = states.Contains
	_ func(a api.Set) api.Expr                                            = states.Expr
)

// Layer 11.
var (
	_ func(p api.Program) api.Config                                          = machine.Start
	_ func(p api.Program, c api.Config) []api.Choice                          = machine.Enabled
	_ func(p api.Program, c api.Config, x api.Choice) (api.Config, api.Errno) = machine.Next
	_ func(p api.Program, c api.Config) bool                                  = machine.Done
)

// Layer 12.
var (
	_ func(p api.Program, model int, c api.Config) []api.Choice                          = buffers.Enabled
	_ func(p api.Program, model int, c api.Config, x api.Choice) (api.Config, api.Errno) = buffers.Next
	_ func(p api.Program, c api.Config, thread int) []int                                = buffers.View
	_ func(c api.Config) bool                                                            = buffers.Quiet
)

// Layer 13.
var (
	_ func(run []api.Choice) (string, api.Errno)                                      = schedule.Text
	_ func(text string) ([]api.Choice, api.Errno)                                     = schedule.Parse
	_ func(p api.Program, model int, run []api.Choice) ([]api.Config, api.Errno, int) = schedule.Run
)

// Layer 14.
var (
	_ func(p api.Program, model, limit int) ([]api.Config, api.Errno)                 = explore.Reach
	_ func(p api.Program, model int, g api.Goal, limit int) ([]api.Choice, api.Errno) = explore.Find
	_ func(p api.Program, c api.Config, g api.Goal) bool                              = explore.Meets
)

// Layer 15.
var (
	_ func(cells []api.Cell, list []int, e api.Expr) (api.Rel, api.Errno) = relation.Of
	_ func(cells []api.Cell, list []int) (api.Rel, api.Errno)             = relation.Identity
	_ func(a, b api.Rel) (api.Rel, api.Errno)                             = relation.Union
	_ func(a, b api.Rel) (api.Rel, api.Errno)                             = relation.Compose
	_ func(a api.Rel) (api.Rel, api.Errno)                                = relation.Closure
	_ func(a api.Rel, s api.Set) (api.Set, api.Errno)                     = relation.Image
	_ func(a api.Rel, s api.Set) (api.Set, api.Errno)                     = relation.Inside
)

// Layer 16.
var (
	_ func(p api.Program) [][2]int                                     = interfere.Pairs
	_ func(p api.Program, module int) api.Expr                         = interfere.Step
	_ func(p api.Program, thread int) api.Expr                         = interfere.On
	_ func(p api.Program, thread int, list []int) (api.Rel, api.Errno) = interfere.Closure
)

// Layer 17.
var (
	_ func(p api.Program, module int) (api.Expr, api.Errno) = infer.Rely
	_ func(p api.Program, module int) []int                 = infer.Frame
	_ func(p api.Program) (api.Program, api.Errno)          = infer.Fill
	_ func(p api.Program) []int                             = infer.Idle
)

// Layer 18.
var (
	_ func(p api.Program, thread, point, fuel int) (api.Set, api.Errno)           = stabilise.Weakest
	_ func(p api.Program, thread, point int) (bool, api.Errno)                    = stabilise.Stable
	_ func(p api.Program, thread, point int) (api.Place, []int, []int, api.Errno) = stabilise.Breaker
)

// Layer 19.
var (
	_ func(p api.Program) ([]api.Cond, api.Errno)            = conditions.All
	_ func(list []api.Cond, id string) (api.Cond, api.Errno) = conditions.Find
	_ func(c api.Cond) []int                                 = conditions.Footprint
)

// Layer 20.
var (
	_ func(cells []api.Cell, c api.Cond) (int, []int, []int, api.Errno) = decide.Decide
	_ func(p api.Program) (bool, api.Errno)                             = decide.Certified
)

// Layer 21.
var (
	_ func(f api.CNF) bool                   = cnf.Valid
	_ func(f api.CNF, values []bool) bool    = cnf.Eval
	_ func(f api.CNF) api.CNF                = cnf.Normal
	_ func(f api.CNF) string                 = cnf.Text
	_ func(text string) (api.CNF, api.Errno) = cnf.Parse
)

// Layer 22.
var (
	_ func(cells []api.Cell, c api.Cond) (api.CNF, api.Errno)                = encode.Negation
	_ func(cells []api.Cell, c api.Cond) (old, now []int)                    = encode.Layout
	_ func(cells []api.Cell, c api.Cond, values []bool) (old, now []int)     = encode.Decode
	_ func(cells []api.Cell, c api.Cond, old, now []int) ([]bool, api.Errno) = encode.Extend
)

// Layer 23.
var (
	_ func(f api.CNF, lits []int) (trail, reasons []int, conflict int) = unitprop.Propagate
	_ func(f api.CNF, lits []int) ([]int, api.Errno)                   = unitprop.Hints
)

// Layer 24.
var (
	_ func(vars int) *solver.Solver                                        = solver.New
	_ func(s *solver.Solver, clause []int) api.Errno                       = (*solver.Solver).Add
	_ func(s *solver.Solver, assumptions []int, fuel int) (int, api.Errno) = (*solver.Solver).Solve
	_ func(*solver.Solver) []bool                                          = (*solver.Solver).Values
	_ func(*solver.Solver) []int                                           = (*solver.Solver).Core
	_ func(*solver.Solver) []api.Learn                                     = (*solver.Solver).Proof
	_ func(*solver.Solver) int                                             = (*solver.Solver).Used
)

// Layer 25.
var (
	_ func(f api.CNF, list []api.Learn) bool                     = proof.Valid
	_ func(list []api.Learn) string                              = proof.Text
	_ func(text string) ([]api.Learn, api.Errno)                 = proof.Parse
	_ func(f api.CNF, list []api.Learn) ([]api.Learn, api.Errno) = proof.Trim
)

// Layer 26.
var (
	_ func(f api.CNF, before []api.Learn, s api.Learn) bool = checker.Step
	_ func(f api.CNF, list []api.Learn) (int, api.Errno)    = checker.Check
	_ func(f api.CNF, list []api.Learn) bool                = checker.Refutes
)

// Layer 27.
var (
	_ func(c api.Cond) string                 = certificate.Digest
	_ func(x api.Cert, c api.Cond) bool       = certificate.Matches
	_ func(x api.Cert) string                 = certificate.Text
	_ func(text string) (api.Cert, api.Errno) = certificate.Parse
)

// Layer 28.
var (
	_ func(cells []api.Cell, c api.Cond, fuel int) (api.Cert, api.Errno) = prover.Prove
	_ func(p api.Program, fuel int) ([]api.Cert, api.Errno)              = prover.All
)

// Layer 29.
var (
	_ func(p api.Program, id string) (api.Cond, api.Errno) = audit.Condition
	_ func(p api.Program, x api.Cert) bool                 = audit.Accepts
	_ func(p api.Program, list []api.Cert) bool            = audit.Program
)

// Layer 30.
var (
	_ func(p api.Program) []api.Access                    = conflict.Accesses
	_ func(p api.Program, model int) []api.Delay          = conflict.Delays
	_ func(p api.Program, model int) ([]api.Access, bool) = conflict.Cycle
	_ func(p api.Program, model int) bool                 = conflict.Robust
)

// Layer 31.
var (
	_ func(p api.Program, places []api.Place) (api.Program, api.Errno) = fences.Insert
	_ func(p api.Program, model int) ([]api.Place, api.Errno)          = fences.Minimal
)

// Layer 32.
var (
	_ func(c api.Cond, e api.Expr) api.Cond                    = hint.Strengthen
	_ func(cells []api.Cell, c api.Cond) (api.Expr, api.Errno) = hint.Weakest
)

// Layer 33.
var (
	_ func(p api.Program, model int, run []api.Choice) ([]api.Violation, api.Errno) = monitor.Watch
	_ func(p api.Program, model int, run []api.Choice) (api.Violation, bool)        = monitor.First
)

// Layer 34.
var (
	_ func(p api.Program, model int, run []api.Choice) ([]api.Choice, api.Errno) = shrink.Shrink
	_ func(p api.Program, model int, run []api.Choice) bool                      = shrink.Minimal
)

// Layer 35.
var (
	_ func(p api.Program, model int, id string, limit int) (api.Attack, api.Errno) = attack.Try
	_ func(p api.Program, model, limit int) ([]api.Choice, api.Errno)              = attack.Any
)

// Layer 36.
var (
	_ func(p api.Program, thread, loop int) (int, api.Errno)                                        = termination.Bound
	_ func(p api.Program, model int, run []api.Choice, thread, loop int) (int, api.Errno)           = termination.Iterations
	_ func(p api.Program, model, thread, loop, limit int) (stem, cycle []api.Choice, err api.Errno) = termination.Lasso
)

// Layer 37.
var (
	_ func(modules []string, main string) (string, api.Errno) = link.Join
	_ func(source string) ([]string, string, api.Errno)       = link.Split
	_ func(p api.Program, fuel int) ([][2]int, api.Errno)     = link.Broken
)

// Layer 38.
var (
	_ func(text string) string                                                               = registry.Digest
	_ func(r api.Registry, owner string, version int, text string) (api.Registry, api.Errno) = registry.Publish
	_ func(r api.Registry, main string) (api.Registry, api.Errno)                            = registry.SetMain
	_ func(r api.Registry, name string) (api.Release, api.Errno)                             = registry.Current
	_ func(r api.Registry) (string, api.Errno)                                               = registry.Source
	_ func(r api.Registry, list []api.Cert) (api.Registry, api.Errno)                        = registry.Store
	_ func(r api.Registry) bool                                                              = registry.Valid
)

// Layer 39.
var (
	_ func(before, after api.Program) (api.Plan, api.Errno)                                        = recall.Compare
	_ func(p api.Program, fuel int) ([]int, api.Errno)                                             = recall.Modules
	_ func(before, after api.Program, list []api.Cert, fuel int) ([]api.Cert, api.Plan, api.Errno) = recall.Update
)

// Layer 40.
var (
	_ func(source string, model, fuel int) (api.Report, []api.Diag) = workshop.Certify
	_ func(script string) (string, api.Errno)                       = workshop.Run
	_ func() *workshop.Session                                      = workshop.New
	_ func(s *workshop.Session, line string) (string, api.Errno)    = (*workshop.Session).Do
)
