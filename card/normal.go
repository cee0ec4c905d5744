package card

import (
	"cardbox/api"
	"cardbox/schema"
	"cardbox/tree"
)

// Normal tells the normal form of a right card; of another value that value,
// sorted.
func Normal(v api.Value) api.Value {
	sorted := tree.Sort(v)
	if len(Check(v)) > 0 {
		return sorted
	}
	return lean(cardType, sorted)
}

// lean tells a right object of a type without what its normal form hasn't. Its
// lists are written over: nobody else may hold them.
func lean(of string, v api.Value) api.Value {
	props := schema.Props(of)
	members := make([]api.Member, 0, len(v.M))
	for _, m := range v.M {
		// What stands in members of others' names is theirs, and stays.
		p, _ := find(props, m.Name)
		if m.Name == typeName && of != timestampType || isDefault(p, m.Val) {
			continue
		}
		members = append(members, api.Member{Name: m.Name, Val: leanWithin(p, m.Val)})
	}
	v.M = members
	return v
}

// leanWithin tells the value of a member with the objects in it made lean.
func leanWithin(p schema.Prop, v api.Value) api.Value {
	switch p.Form {
	case formObject:
		return lean(p.Arg, v)
	case formDate:
		return lean(dateType(v), v)
	case formList:
		for i, x := range v.L {
			v.L[i] = lean(p.Arg, x)
		}
	case formById, formByText:
		for i, m := range v.M {
			v.M[i].Val = lean(p.Arg, m.Val)
		}
	}
	return v
}

// isDefault tells whether the value of a member is what stands for it where it
// isn't there.
func isDefault(p schema.Prop, v api.Value) bool {
	switch {
	case p.Default == "":
		return false
	case p.Form == formTruth:
		return v.N == 0
	}
	return v.S == p.Default
}
