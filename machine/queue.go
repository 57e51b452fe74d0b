package machine

import "herald/api"

// queue is the messages of a device, from the first to the last.
type queue struct {
	messages []api.Message
}

// put lays a message into the place of one of the same run and key, else behind all others; false, if it finds no room.
func (q *queue) put(message api.Message) bool {
	for i, old := range q.messages {
		if old.Run == message.Run && old.Key == message.Key {
			q.messages[i] = message
			return true
		}
	}
	if len(q.messages) >= api.MaxQueue {
		return false
	}
	q.messages = append(q.messages, message)
	return true
}

func (q *queue) has(run int, number int) bool {
	for _, message := range q.messages {
		if message.Run == run && message.Number == number {
			return true
		}
	}
	return false
}

// remove takes the message of this run and number out, if it is there.
func (q *queue) remove(run int, number int) {
	var rest []api.Message
	for _, message := range q.messages {
		if message.Run != run || message.Number != number {
			rest = append(rest, message)
		}
	}
	q.messages = rest
}

func (q *queue) removeAll(run int) {
	var rest []api.Message
	for _, message := range q.messages {
		if message.Run != run {
			rest = append(rest, message)
		}
	}
	q.messages = rest
}
