package vm

import (
	"slices"

	"hasp/api"
	"hasp/logic"
)

// Run is a plan that runs.
type Run struct {
	machine
	txn     int
	plan    api.Plan
	place   int
	cursors [api.MaxFrom]cursor
	code    api.Errno // the statement's error
	answer  []line
	changes []api.Change
	guarded int // how many of the changes are
	count   int // how many changes were made
	isDone  bool
	isWrong bool // the plan can't be run
}

// line is a row of the answer, with what it is sorted by.
type line struct{ row, sorts []api.Value }

// blocked is what a step gives up with that has to wait, wrong one that its plan doesn't let go on.
type (
	blocked struct{}
	wrong   struct{}
)

// Step does one instruction.
func (r *Run) Step() (state int) {
	if r.isDone {
		return api.Done
	}
	place := r.place
	defer func() {
		met := recover()
		if met == nil {
			return
		}
		if _, waits := met.(blocked); waits {
			r.place, state = place, api.Blocked
			return
		}
		if _, fails := met.(wrong); !fails {
			panic(met)
		}
		r.isDone, r.isWrong, state = true, true, api.Done
	}()
	r.do()
	if r.isDone {
		return api.Done
	}
	return api.Running
}

// do does the instruction at the run's place.
func (r *Run) do() {
	must(r.place >= 0 && r.place < len(r.plan.Code))
	x := r.plan.Code[r.place]
	deed := deedOf(x.Op)
	must(deed != nil)
	r.place++
	deed(r, x)
}

// deedOf gives what an instruction does; nil: there is none such.
func deedOf(op int) func(*Run, api.Instr) {
	switch op {
	case api.InLock:
		return (*Run).lock
	case api.InOpen:
		return (*Run).open
	case api.InNext:
		return (*Run).next
	case api.InTest:
		return (*Run).test
	case api.InEmit:
		return (*Run).emit
	case api.InPick:
		return (*Run).pick
	case api.InMake:
		return (*Run).make
	case api.InJump:
		return (*Run).jump
	case api.InGuard:
		return (*Run).guard
	case api.InApply:
		return (*Run).apply
	case api.InSort:
		return (*Run).sort
	case api.InHalt:
		return (*Run).halt
	}
	return nil
}

func (r *Run) jump(x api.Instr) { r.place = x.To }

func (r *Run) halt(api.Instr) { r.isDone = true }

// Result tells what came of it.
func (r *Run) Result() api.Result {
	switch {
	case r.isWrong:
		return api.Result{Code: api.ErrPlan}
	case r.code != api.OK:
		return api.Result{Code: r.code}
	}
	result := api.Result{Count: r.count}
	for _, l := range r.answer {
		result.Rows = append(result.Rows, slices.Clone(l.row))
	}
	return result
}

// must gives a step up, if what a plan has to keep to doesn't hold.
func must(holds bool) {
	if !holds {
		panic(wrong{})
	}
}

// note lets an error be the statement's, if it counts.
func (r *Run) note(code api.Errno) { r.code = logic.Worse(r.code, code) }
