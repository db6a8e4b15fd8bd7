package rules

import "pharos/api"

// first goes through rules in their order and answers the error of the first that isn't kept. Those behind
// it aren't asked: they take it for kept, and signatures take long.
func first(rules ...func() api.Errno) api.Errno {
	err := api.OK
asking:
	for _, rule := range rules {
		switch err = rule(); err {
		case api.OK:
		default:
			break asking
		}
	}
	return err
}

// greater goes through marks in their order and answers whether the first that isn't 0 is above it: only
// that one tells.
func greater(marks ...int) bool {
	out := false
telling:
	for _, mark := range marks {
		switch mark {
		case 0:
		default:
			out = mark > 0
			break telling
		}
	}
	return out
}

// unless answers OK if a rule is kept, or its error.
func unless(kept bool, err api.Errno) api.Errno {
	if kept {
		return api.OK
	}
	return err
}
