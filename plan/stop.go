package plan

import (
	"hasp/api"
	"hasp/modes"
)

// stop is a source at its place in the order of the join, with what is tested there.
type stop struct {
	way
	source int
	table  string
	tests  []api.Code
}

// tableMode gives the mode in which the table is to be locked: in that of IS its entries and rows are locked one by one.
func (s stop) tableMode() int {
	if s.index < 0 {
		return api.S
	}
	return api.IS
}

// open gives the instruction that opens the source's cursor.
func (s stop) open() api.Instr {
	return api.Instr{Op: api.InOpen, C: s.source, Table: s.table, Index: s.index, Lo: copies(s.lo), Hi: copies(s.hi), LoOut: s.loOut, HiOut: s.hiOut}
}

// next gives the instruction that goes on to the next row.
func (s stop) next(to, keyMode, rowMode int) api.Instr {
	if s.index < 0 {
		return api.Instr{Op: api.InNext, C: s.source, To: to, Part: rowMode}
	}
	return api.Instr{Op: api.InNext, C: s.source, To: to, Mode: keyMode, Part: modes.Join(rowMode, api.S)}
}
