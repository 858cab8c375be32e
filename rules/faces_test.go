package rules

import (
	"smithy/api"
	"smithy/asm"
	"smithy/basisrt"
	"smithy/big"
	"smithy/bigrt"
	"smithy/close"
	"smithy/colour"
	"smithy/core"
	"smithy/data"
	"smithy/elab"
	"smithy/elf"
	"smithy/emit"
	"smithy/flow"
	"smithy/gcrt"
	"smithy/heap"
	"smithy/image"
	"smithy/lex"
	"smithy/machine"
	"smithy/match"
	"smithy/opt"
	"smithy/source"
	"smithy/syntax"
	"smithy/types"
	"smithy/word"
	"smithy/world"
	"smithy/x64"
)

// The calls that the chapters list, with their signatures: this file compiles only while all of them stand so.

var (
	_ func(int64) api.Int                              = big.Of
	_ func(api.Int) api.Int                            = big.Norm
	_ func(api.Int) bool                               = big.Valid
	_ func(api.Int) (int64, bool)                      = big.Int64
	_ func(api.Int) int                                = big.Sign
	_ func(a, b api.Int) int                           = big.Cmp
	_ func(api.Int) api.Int                            = big.Neg
	_ func(api.Int) api.Int                            = big.Abs
	_ func(a, b api.Int) api.Int                       = big.Add
	_ func(a, b api.Int) api.Int                       = big.Sub
	_ func(a, b api.Int) api.Int                       = big.Mul
	_ func(a, b api.Int) (api.Int, api.Int, api.Errno) = big.DivMod
	_ func(api.Int) string                             = big.Text
	_ func(string) (api.Int, api.Errno)                = big.Parse
)

var (
	_ func(api.World) *world.World                      = world.New
	_ func(*world.World) *world.World                   = (*world.World).Copy
	_ func(*world.World, string, int64) int64           = (*world.World).SysOpen
	_ func(*world.World, int64, uint64) (string, int64) = (*world.World).SysRead
	_ func(*world.World, int64, string) int64           = (*world.World).SysWrite
	_ func(*world.World, int64) int64                   = (*world.World).SysClose
	_ func(*world.World, string)                        = (*world.World).Out
	_ func(*world.World, string)                        = (*world.World).Err
	_ func(*world.World) string                         = (*world.World).Line
	_ func(*world.World, string) (string, bool)         = (*world.World).ReadFile
	_ func(w *world.World, name, data string) bool      = (*world.World).WriteFile
	_ func(*world.World) []api.Event                    = (*world.World).Trace
	_ func(*world.World) []api.File                     = (*world.World).Files
)

var (
	_ = lex.Token{Kind: lex.Id, Text: "", Int: api.Int{}, Bits: uint64(0), N: 0, At: 0}

	_ func(string) ([]lex.Token, api.Mishap)                     = lex.Tokens
	_ func(string) bool                                          = lex.Reserved
	_ func(string) ([]api.Dec, api.Mishap)                       = syntax.Parse
	_ func([]api.Dec) string                                     = syntax.Print
	_ func(a, b []api.Dec) bool                                  = syntax.Same
	_ func([]api.Dec) ([]api.Dec, []api.Named, api.Errno)        = types.Infer
	_ func(api.Type) string                                      = types.Text
	_ func([]api.Dec, api.World, int) (api.Outcome, api.Errno)   = source.Run
	_ func(api.Core) api.Errno                                   = core.Check
	_ func(api.Core) int                                         = core.Size
	_ func(api.Core) bool                                        = core.Plain
	_ func(api.Core, api.World, int) (api.Outcome, api.Errno)    = core.Run
	_ func([]api.Dec) (api.Core, api.Errno)                      = elab.Core
	_ func(api.Core) (api.Core, []api.Warning, api.Errno)        = match.Switches
	_ func(api.Core) ([]api.Warning, api.Errno)                  = match.Warnings
	_ func(api.Program) api.Errno                                = flow.Check
	_ func(api.Program, api.World, int) (api.Outcome, api.Errno) = flow.Run
	_ func() map[string]int                                      = flow.Prims
	_ func(api.Core) (api.Program, api.Errno)                    = close.Flow
	_ func(api.Program) (api.Program, api.Errno)                 = opt.Opt
)

var (
	_ func(api.WordProgram) api.Errno                                              = word.Check
	_ func(api.WordProgram) bool                                                   = word.Strict
	_ func(api.WordProgram, uint64, bool, *world.World) (*word.Process, api.Errno) = word.New
	_ func(*word.Process, string, []uint64) api.Errno                              = (*word.Process).Enter
	_ func(*word.Process, int) int                                                 = (*word.Process).Run
	_ func(*word.Process) uint64                                                   = (*word.Process).Answer
	_ func(*word.Process) int                                                      = (*word.Process).Code
	_ func(*word.Process) int                                                      = (*word.Process).Steps
	_ func(*word.Process, uint64, int) (uint64, bool)                              = (*word.Process).Load
	_ func(*word.Process, uint64, int, uint64) bool                                = (*word.Process).Store
	_ func(api.Graph) api.Errno                                                    = heap.Check
	_ func(api.Thing) int64                                                        = heap.Size
	_ func(api.Thing) uint64                                                       = heap.Header
	_ func(api.Graph) (api.Graph, api.Errno)                                       = heap.Canon
	_ func(g, h api.Graph) bool                                                    = heap.Same
	_ func(api.Graph, uint64) ([]byte, []uint64, api.Errno)                        = heap.Lay
	_ func([]byte, uint64, []uint64) (api.Graph, api.Errno)                        = heap.Read
	_ func(int) []api.WordFunction                                                 = gcrt.Functions
	_ func() api.WordProgram                                                       = gcrt.Program
	_ func() int                                                                   = gcrt.Cells
	_ func(base, gc int) []api.WordFunction                                        = bigrt.Functions
	_ func() api.WordProgram                                                       = bigrt.Program
	_ func(base, gc, big, data int) []api.WordFunction                             = basisrt.Functions
	_ func() []byte                                                                = basisrt.Static
	_ func(string) (int, bool)                                                     = basisrt.Number
	_ func() api.WordProgram                                                       = basisrt.Program
	_ func(api.Program) (api.WordProgram, api.Errno)                               = data.Program
	_ func(api.WordProgram) api.Errno                                              = colour.Check
	_ func(api.WordProgram) (api.WordProgram, api.Errno)                           = colour.Program
)

var (
	_ func(api.Ins) bool                                           = x64.Valid
	_ func(api.Ins) ([]byte, api.Errno)                            = x64.Encode
	_ func([]byte) (api.Ins, int, api.Errno)                       = x64.Decode
	_ func([]api.Ins) ([]byte, api.Errno)                          = x64.All
	_ func([]byte) ([]api.Ins, api.Errno)                          = x64.List
	_ func(api.Ins) string                                         = x64.Text
	_ func(api.Loaded, *world.World) (*machine.Machine, api.Errno) = machine.New
	_ func(*machine.Machine) int                                   = (*machine.Machine).Step
	_ func(*machine.Machine, int) int                              = (*machine.Machine).Run
	_ func(*machine.Machine) (int, int)                            = (*machine.Machine).Stop
	_ func(*machine.Machine) int                                   = (*machine.Machine).Steps
	_ func(*machine.Machine) uint64                                = (*machine.Machine).At
	_ func(*machine.Machine, int) uint64                           = (*machine.Machine).Reg
	_ func(*machine.Machine, int, uint64) api.Errno                = (*machine.Machine).SetReg
	_ func(*machine.Machine, int) uint64                           = (*machine.Machine).Xmm
	_ func(*machine.Machine) api.Flags                             = (*machine.Machine).Flags
	_ func(*machine.Machine, api.Flags)                            = (*machine.Machine).SetFlags
	_ func(*machine.Machine, uint64, int) ([]byte, bool)           = (*machine.Machine).Read
	_ func(*machine.Machine) *machine.Machine                      = (*machine.Machine).Copy
	_ func([]api.Line) api.Errno                                   = asm.Check
	_ func([]api.Line, uint64) ([]api.Ins, api.Errno)              = asm.Resolve
	_ func([]api.Line, uint64) ([]uint64, api.Errno)               = asm.Places
	_ func([]api.Line, uint64) ([]byte, api.Errno)                 = asm.Assemble
	_ func(api.WordProgram, uint64) (api.Loaded, api.Errno)        = emit.Image
	_ func(api.WordProgram, uint64) ([]api.Line, api.Errno)        = emit.Lines
	_ func(api.Loaded) api.Errno                                   = elf.Check
	_ func(api.Loaded) ([]byte, api.Errno)                         = elf.Write
	_ func([]byte) (api.Loaded, api.Errno)                         = elf.Load
	_ func(string, int) ([]byte, api.Mishap)                       = image.Compile
	_ func(string) (api.Program, api.Mishap)                       = image.Flow
	_ func(string, api.World, int) (api.Outcome, api.Mishap)       = image.Interpret
	_ func([]byte, api.World, int) (api.Outcome, api.Errno)        = image.Run
)
