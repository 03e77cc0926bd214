package vm

import (
	"strconv"

	"hasp/api"
	"hasp/modes"
)

// ResTable gives the thing that is locked for a table's rows.
func ResTable(table string) string { return "t/" + table }

// ResRow gives the thing that is locked for a row.
func ResRow(table string, id int) string { return "r/" + table + "/" + strconv.Itoa(id) }

// ResKey gives the thing that is locked for an index's entry.
func ResKey(table, index string, key []byte) string {
	return "k/" + table + "/" + index + "/" + string(key)
}

// ResEnd gives the thing that is locked for what stands behind an index's last entry.
func ResEnd(table, index string) string { return "e/" + table + "/" + index }

// resSpot gives the thing that is locked for a spot of a table's indexes.
func resSpot(desc api.Table, s api.Spot) string {
	index := desc.Indexes[s.Index].Name
	if s.End {
		return ResEnd(desc.Name, index)
	}
	return ResKey(desc.Name, index, s.Key)
}

// ask asks for a lock, if there is a mode; where it isn't granted the step is given up.
func (r *Run) ask(res string, mode int) {
	if mode != 0 && r.locks.Ask(r.txn, res, mode) != api.Granted {
		panic(blocked{})
	}
}

func isModeOrNone(m int) bool { return m == 0 || modes.Right(m) }

func (r *Run) lock(x api.Instr) {
	must(modes.Right(x.Mode))
	r.ask(ResTable(x.Table), x.Mode)
}
