package schema

import "slices"

// The forms of members.
const (
	formText     = iota + 1 // a text
	formShort               // a text of 1 to 255 bytes
	formTruth               // a truth
	formCount               // a number from 0 on
	formRank                // a number from 1 to 100
	formId                  // an id
	formStamp               // a stamp
	formAddress             // an address
	formMedia               // a media type
	formLanguage            // a language
	formWord                // one of the words Arg
	formObject              // an object of the type Arg
	formList                // a list of these
	formById                // a map from ids to these
	formByText              // a map from texts of 1 to 255 bytes to these
	formTexts               // a map from such texts to true
	formWords               // a map from words of Arg to true
	formDate                // an object of the type Timestamp or PartialDate
)

// The words that are long, or that several types have.
const (
	contextWords = "private work"
	cardKinds    = "application device group individual location org"
	addressKinds = "apartment block building country direction district floor landmark locality name number postOfficeBox postcode region room separator subdistrict"
	nameKinds    = "credential generation given given2 separator surname surname2 title"
	phoneWords   = "fax main-number mobile pager text textphone video voice"
	relatedWords = "acquaintance agent child co-resident co-worker colleague contact crush date emergency friend kin me met muse neighbor parent sibling spouse sweetheart"
)

// table tells the members of a type, in any order, in new memory; none, if
// there is no such type.
func table(of string) []Prop {
	switch of {
	case "Card":
		return slices.Concat(cardItself(), cardItems())
	case "Address":
		return address()
	case "AddressComponent":
		return component(addressKinds)
	case "Anniversary":
		return []Prop{{Name: "date", Form: formDate, Must: true}, {Name: "kind", Form: formWord, Arg: "birth death wedding", Must: true}}
	case "EmailAddress":
		return labelled(Prop{Name: "address", Form: formText, Must: true})
	case "LanguagePref":
		return preferred(Prop{Name: "language", Form: formLanguage, Must: true})
	case "Link":
		return resource(Prop{Name: "kind", Form: formWord, Arg: "contact"})
	case "Media":
		return resource(Prop{Name: "kind", Form: formWord, Arg: "logo photo sound", Must: true})
	case "Name":
		return joined("NameComponent")
	case "NameComponent":
		return component(nameKinds)
	case "Nickname":
		return preferred(Prop{Name: "name", Form: formText, Must: true})
	case "Note":
		return []Prop{{Name: "created", Form: formStamp}, {Name: "note", Form: formText, Must: true}}
	case "OnlineService":
		return labelled(Prop{Name: "service", Form: formText}, Prop{Name: "uri", Form: formAddress}, Prop{Name: "user", Form: formText})
	case "OrgUnit":
		return []Prop{{Name: "name", Form: formText, Must: true}, {Name: "sortAs", Form: formText}}
	case "Organization":
		return organization()
	case "PartialDate":
		return []Prop{{Name: "day", Form: formCount}, {Name: "month", Form: formCount}, {Name: "year", Form: formCount}}
	case "Phone":
		return labelled(Prop{Name: "features", Form: formWords, Arg: phoneWords}, Prop{Name: "number", Form: formText, Must: true})
	case "Relation":
		return []Prop{{Name: "relation", Form: formWords, Arg: relatedWords}}
	case "Timestamp":
		return []Prop{{Name: "utc", Form: formStamp, Must: true}}
	case "Title":
		return title()
	}
	return nil
}

// cardItself tells the members of a card that say something of it as a whole.
func cardItself() []Prop {
	return []Prop{
		{Name: "created", Form: formStamp},
		{Name: "keywords", Form: formTexts},
		{Name: "kind", Form: formWord, Arg: cardKinds, Default: "individual"},
		{Name: "language", Form: formLanguage},
		{Name: "members", Form: formTexts},
		{Name: "name", Form: formObject, Arg: "Name"},
		{Name: "prodId", Form: formText},
		{Name: "relatedTo", Form: formByText, Arg: "Relation"},
		{Name: "uid", Form: formShort, Must: true},
		{Name: "updated", Form: formStamp},
		{Name: "version", Form: formWord, Arg: "1.0", Must: true},
	}
}

// cardItems tells the members of a card in which objects stand by ids.
func cardItems() []Prop {
	return []Prop{
		{Name: "addresses", Form: formById, Arg: "Address"},
		{Name: "anniversaries", Form: formById, Arg: "Anniversary"},
		{Name: "emails", Form: formById, Arg: "EmailAddress"},
		{Name: "links", Form: formById, Arg: "Link"},
		{Name: "media", Form: formById, Arg: "Media"},
		{Name: "nicknames", Form: formById, Arg: "Nickname"},
		{Name: "notes", Form: formById, Arg: "Note"},
		{Name: "onlineServices", Form: formById, Arg: "OnlineService"},
		{Name: "organizations", Form: formById, Arg: "Organization"},
		{Name: "phones", Form: formById, Arg: "Phone"},
		{Name: "preferredLanguages", Form: formById, Arg: "LanguagePref"},
		{Name: "titles", Form: formById, Arg: "Title"},
	}
}

func address() []Prop {
	return joined("AddressComponent",
		Prop{Name: "contexts", Form: formWords, Arg: "billing delivery " + contextWords},
		Prop{Name: "coordinates", Form: formAddress},
		Prop{Name: "countryCode", Form: formText},
		Prop{Name: "pref", Form: formRank},
		Prop{Name: "timeZone", Form: formText},
	)
}

func organization() []Prop {
	return []Prop{
		{Name: "contexts", Form: formWords, Arg: contextWords},
		{Name: "name", Form: formText},
		{Name: "sortAs", Form: formText},
		{Name: "units", Form: formList, Arg: "OrgUnit"},
	}
}

func title() []Prop {
	return []Prop{
		{Name: "kind", Form: formWord, Arg: "role title", Default: "title"},
		{Name: "name", Form: formText, Must: true},
		{Name: "organizationId", Form: formId},
	}
}

// component tells the members of a part of a name or an address that is of one
// of some kinds.
func component(kinds string) []Prop {
	return []Prop{
		{Name: "kind", Form: formWord, Arg: kinds, Must: true},
		{Name: "value", Form: formText, Must: true},
	}
}

// joined lays, behind what comes ahead, the members of what is made of parts of
// a type.
func joined(parts string, ahead ...Prop) []Prop {
	return slices.Concat(ahead, []Prop{
		{Name: "components", Form: formList, Arg: parts},
		{Name: "defaultSeparator", Form: formText},
		{Name: "full", Form: formText},
		{Name: "isOrdered", Form: formTruth, Default: "false"},
	})
}

// preferred lays, behind what comes ahead, the members of what is used in some
// contexts, and rather than others.
func preferred(ahead ...Prop) []Prop {
	return slices.Concat(ahead, []Prop{
		{Name: "contexts", Form: formWords, Arg: contextWords},
		{Name: "pref", Form: formRank},
	})
}

// labelled lays what preferred does, and a label.
func labelled(ahead ...Prop) []Prop {
	return append(preferred(ahead...), Prop{Name: "label", Form: formText})
}

// resource lays what labelled does, and the members of what lies at an address.
func resource(ahead ...Prop) []Prop {
	return append(labelled(ahead...),
		Prop{Name: "mediaType", Form: formMedia},
		Prop{Name: "uri", Form: formAddress, Must: true},
	)
}
