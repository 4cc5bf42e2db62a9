package holds

import (
	"vigil/api"
	"vigil/token"
)

// allValues is an element of a set with each y in it. The bits above stay 0, so that equal sets are equal arrays.
const allValues = 1<<api.Values - 1

func allPairs() api.Rel {
	var set api.Rel
	for x := 0; x < len(set); x++ {
		set[x] = allValues
	}
	return set
}

func both(one api.Rel, other api.Rel) api.Rel {
	for x := 0; x < len(one); x++ {
		one[x] = one[x] & other[x]
	}
	return one
}

func either(one api.Rel, other api.Rel) api.Rel {
	for x := 0; x < len(one); x++ {
		one[x] = one[x] | other[x]
	}
	return one
}

func without(one api.Rel, other api.Rel) api.Rel {
	for x := 0; x < len(one); x++ {
		one[x] = one[x] &^ other[x]
	}
	return one
}

// withValue tells all pairs in which the variable has this value.
func withValue(variable token.Kind, value int) api.Rel {
	var set api.Rel
	for other := 0; other < api.Values; other++ {
		if variable == token.X {
			set = set.With(value, other)
		} else {
			set = set.With(other, value)
		}
	}
	return set
}

// forSome tells all pairs that come to be in the set with some value of the variable in place of their own.
func forSome(variable token.Kind, set api.Rel) api.Rel {
	if variable == token.X {
		return forSomeX(set)
	}
	return forSomeY(set)
}

func forSomeX(set api.Rel) api.Rel {
	var found uint16
	for x := 0; x < len(set); x++ {
		found = found | set[x]
	}
	for x := 0; x < len(set); x++ {
		set[x] = found
	}
	return set
}

func forSomeY(set api.Rel) api.Rel {
	for x := 0; x < len(set); x++ {
		if set[x] != 0 {
			set[x] = allValues
		}
	}
	return set
}

// narrow leaves of the pairs that differ only in a variable that is not free the one in which it is 0.
func narrow(set api.Rel, info api.Info) api.Rel {
	for x := 0; x < len(set); x++ {
		if x > 0 && !info.X {
			set[x] = 0
		}
		if !info.Y {
			set[x] = set[x] & 1
		}
	}
	return set
}
