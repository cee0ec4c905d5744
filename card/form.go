package card

import (
	"slices"

	"cardbox/api"
	"cardbox/ident"
	"cardbox/schema"
	"cardbox/stamp"
	"cardbox/tree"
	"cardbox/word"
)

// The numbers of the forms, as layer 13 has them.
const (
	formText = 1 + iota
	formShort
	formTruth
	formCount
	formRank
	formId
	formStamp
	formAddress
	formMedia
	formLanguage
	formWord
	formObject
	formList
	formById
	formByText
	formTexts
	formWords
	formDate
)

const (
	// mostShort is how many bytes a short text has at most, mostRank the
	// greatest rank.
	mostShort = 255
	mostRank  = 100
	// The greatest parts of a date.
	mostYear  = 9999
	mostMonth = 12
	mostDay   = 31
)

// hasForm tells whether a value has the form of a member.
func hasForm(p schema.Prop, v api.Value) bool {
	isWord := func(s string) bool { return word.In(p.Arg, s) }
	switch p.Form {
	case formText:
		return isTextOf(v, isAny)
	case formShort:
		return isTextOf(v, isShort)
	case formTruth:
		return v.Kind == api.Bool
	case formCount:
		return v.Kind == api.Int && v.N >= 0
	case formRank:
		return v.Kind == api.Int && 1 <= v.N && v.N <= mostRank
	case formId:
		return isTextOf(v, ident.Is)
	case formStamp:
		return isTextOf(v, stamp.Is)
	case formAddress:
		return isTextOf(v, word.Uri)
	case formMedia:
		return isTextOf(v, word.Media)
	case formLanguage:
		return isTextOf(v, word.Lang)
	case formWord:
		return isTextOf(v, isWord)
	case formObject:
		return Right(p.Arg, v)
	case formList:
		return isListOf(v, rightOf(p.Arg))
	case formById:
		return isMapOf(v, ident.Is, rightOf(p.Arg))
	case formByText:
		return isMapOf(v, isShort, rightOf(p.Arg))
	case formTexts:
		return isMapOf(v, isShort, isTrue)
	case formWords:
		return isMapOf(v, isWord, isTrue)
	case formDate:
		return isDate(v)
	}
	return false
}

// isTextOf tells whether a value is a text that may stand in a card, and such
// as is tells. (Ids, stamps and words are shorter than texts may be.)
func isTextOf(v api.Value, is func(string) bool) bool {
	return v.Kind == api.Text && len(v.S) <= api.MaxString && is(v.S)
}

// isListOf tells whether a value is a list, all values of which are such as is
// tells.
func isListOf(v api.Value, is func(api.Value) bool) bool {
	isNot := func(x api.Value) bool { return !is(x) }
	return v.Kind == api.List && !slices.ContainsFunc(v.L, isNot)
}

// isMapOf tells whether a value is a map, all names and values of which are
// such as isName and is tell.
func isMapOf(v api.Value, isName func(string) bool, is func(api.Value) bool) bool {
	isNot := func(m api.Member) bool { return !isName(m.Name) || !is(m.Val) }
	return v.Kind == api.Map && !slices.ContainsFunc(v.M, isNot)
}

func isAny(string) bool {
	return true
}

func isShort(s string) bool {
	return 1 <= len(s) && len(s) <= mostShort
}

func isTrue(v api.Value) bool {
	return v.Kind == api.Bool && v.N == 1
}

// isDate tells whether a value is a date. (A right Timestamp has neither a year,
// nor a month, nor a day.)
func isDate(v api.Value) bool {
	return Right(dateType(v), v) && isWithin(v, "year", 0, mostYear) && isWithin(v, "month", 1, mostMonth) && isWithin(v, "day", 1, mostDay)
}

// dateType tells the type that a date is of, if it is right.
func dateType(v api.Value) string {
	if of, _ := tree.Get(v, typeName); isText(of, timestampType) {
		return timestampType
	}
	return partialDateType
}

// isWithin tells whether a member, where it is there, is a number from least to
// most.
func isWithin(v api.Value, name string, least, most int64) bool {
	x, is := tree.Get(v, name)
	return !is || least <= x.N && x.N <= most
}
