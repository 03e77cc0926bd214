package plan

import (
	"slices"

	"hasp/api"
)

// maxTests is how many tests a stop has at most: so a plan has no more than MaxCode instructions, whatever else stands in it.
const maxTests = (api.MaxCode - 96) / api.MaxFrom

// fewer gives tests that say together what these say, no more of them than a stop may have.
func fewer(tests []api.Code) []api.Code {
	if len(tests) <= maxTests {
		return tests
	}
	var list []api.Code
	for some := range slices.Chunk(tests, (len(tests)+maxTests-1)/maxTests) {
		list = append(list, together(some))
	}
	return list
}

// together gives one test that says what several say.
func together(tests []api.Code) api.Code {
	if len(tests) == 1 {
		return strict(tests[0])
	}
	half := len(tests) / 2
	return both(together(tests[:half]), together(tests[half:]))
}

// strict gives a test that is false where this one is unknown: an unknown part keeps a row out whatever errors the others meet, but AND heeds an error beside what is unknown, and not beside what is false.
func strict(test api.Code) api.Code {
	known := api.Code{Op: api.OpNotNull, Type: api.Bool, Args: copies([]api.Code{test})}
	return both(test, known)
}

func both(a, b api.Code) api.Code {
	return api.Code{Op: api.OpAnd, Type: api.Bool, Args: []api.Code{a, b}}
}
